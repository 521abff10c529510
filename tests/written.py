"""What can be written, drawn by chance: cases, and papers and trees of tries of the right form alone."""

from reckoned import chance_web, even_case
from things import small_names

GREAT = 10 ** 30 - 1
HUGE = 10 ** 100 - 1
LEAF = ("leaf", (("a", 0), ("ab", 12)), 3)


def chance_small(chance):
    most = chance.choice((1, 3, 9, GREAT))
    return even_case(chance, chance_web(chance, chance.randint(1, 8), most), most, (None, 1, 2, 3, 11, GREAT))


def chance_names(chance):
    pool = small_names(30) + ["ab", "abc", "abcdef", "aa", "zzzzzz", "leaf", "split"]
    return sorted(chance.sample(pool, chance.randint(1, 8)))


def chance_prices(chance):
    return tuple([(name, chance.choice((0, 1, 10, GREAT, HUGE))) for name in chance_names(chance)])


def chance_paper(chance):
    """A paper of the right form alone."""
    ways = tuple([(name, chance.choice(chance_names(chance))) for name in chance_names(chance)])
    return (tuple(chance_names(chance)), ways, chance_prices(chance), chance.choice((0, 7, HUGE)))


def chance_tree_of_tries(chance, deep):
    if deep == 1 or chance.random() < 0.3:
        return ("leaf", chance_prices(chance), chance.choice((0, 7, HUGE)))
    first, second = [chance_tree_of_tries(chance, deep - 1) for turn in range(2)]
    return ("split", chance.choice(chance_names(chance)), first, second)


def deep_tree(deep, side):
    """A tree so deep on the first side, on the second one, or on either in turn."""
    tree = LEAF
    for turn in range(deep - 1):
        sides = (tree, LEAF) if side == "first" or (side == "turns" and turn % 2) else (LEAF, tree)
        tree = ("split", "ab") + sides
    return tree
