"""A desk: it keeps a town, is told rows, and answers each of them with a text."""

from openhouses.checker import lets_by, span
from openhouses.costs import houses_cost, ways_cost
from openhouses.covers import cover_within
from openhouses.errors import NoNumber, NoRow
from openhouses.exchanges import exchanges
from openhouses.papers import paper_of
from openhouses.plain import plain_best
from openhouses.reader import read_case, read_paper, read_tree
from openhouses.texts import case_text, goings_text, opening_text, paper_text
from openhouses.town import Town
from openhouses.tries import tries_hold
from openhouses.wholes import is_written

MOST_FIGURES = 30


class Desk:
    """A desk with the town of a case's text and the opening of its plain best; NoText as reading is refused."""

    def __init__(self, text):
        case = read_case(text)
        self.town = Town(case, plain_best(case)[1])

    def say(self, row):
        """The answer to the row; else NoRow, NoNumber, NoText, or as the stages refuse."""
        words = words_of(row)
        answer = ANSWERS[words[0]]
        return answer(self.town, things_of(words[1:], KINDS[words[0]]))


def words_of(row):
    """The row's words, a paper or a tree as one of them; NoRow where it is none of the rows."""
    if not isinstance(row, str):
        raise NoRow("it is no text")
    words = row.split(" ")
    if words[0] not in KINDS:
        raise NoRow("no row begins so")
    kinds = KINDS[words[0]]
    if "paper" in kinds or "tree" in kinds:
        words = row.split(" ", len(kinds))
    if len(words) != len(kinds) + 1:
        raise NoRow("the row has a word too many or too few")
    return words


def things_of(words, kinds):
    """The list of what the words mean by their kinds; NoNumber ahead of NoText where they mean nothing."""
    for word, kind in zip(words, kinds):
        if kind == "number" and not (is_written(word) and len(word) <= MOST_FIGURES):
            raise NoNumber("it is no number as it is written, or has too many figures")
    return [thing_of(word, kind) for word, kind in zip(words, kinds)]


def thing_of(word, kind):
    """What the word means by its kind; NoText where it is no paper, or no tree."""
    if kind == "number":
        return int(word)
    if kind == "paper":
        return read_paper(word)
    return read_tree(word) if kind == "tree" else word


def told(changes):
    """The answer to a deed that told these changes."""
    return f"ok {len(changes)}"


def say_come(town, things):
    """Folk come to a place."""
    return told(town.come(things[0], things[1]))


def say_leave(town, things):
    """Folk leave a place."""
    return told(town.leave(things[0], things[1]))


def say_length(town, things):
    """A way gets another length."""
    return told(town.length(things[0], things[1], things[2]))


def say_charge(town, things):
    """A site gets another cost."""
    return told(town.charge(things[0], things[1]))


def say_open(town, things):
    """A site is opened."""
    return told(town.begin(things[0]))


def say_shut(town, things):
    """A site is shut."""
    return told(town.shut(things[0]))


def say_back(town, things):
    """The last deed is taken back."""
    return told(town.back())


def say_cost(town, things):
    """What the houses cost, the ways, and both."""
    return f"{houses_cost(town.case(), town.opening())} {ways_cost(town.case(), town.opening())} {town.cost()}"


def say_goings(town, things):
    """Which house each of the folk's places goes to."""
    return goings_text([(place, house) for place, house, length in town.goings()])


def say_best(town, things):
    """The best of the town's case, with its first opening."""
    least, opening = plain_best(town.case())
    return f"{least} {opening_text(opening)}"


def say_lets(town, things):
    """Whether the paper is let by, with its low and high."""
    if not lets_by(town.case(), things[0]):
        return "no"
    low, high = span(town.case(), things[0])
    return f"yes {low} {high}"


def say_paper(town, things):
    """A paper of the town's case."""
    return paper_text(paper_of(town.case()))


def say_holds(town, things):
    """Whether the tree of tries holds for the number."""
    return "yes" if tries_hold(town.case(), things[0], things[1]) else "no"


def say_exchanges(town, things):
    """How many exchanges the town's opening has, and how many of them cost less than it."""
    costs = [number for exchange, number in exchanges(town.case(), town.opening())]
    now = town.cost()
    return f"{len(costs)} {len([number for number in costs if number < now])}"


def say_cover(town, things):
    """The cover within the far, and how many of the folk's places stand apart."""
    cover, apart = cover_within(town.case(), things[0])
    return f"{opening_text(cover)} {len(apart)}"


def say_case(town, things):
    """The text of the town's case."""
    return case_text(town.case())


# What stands behind the first word of each row; a paper and a tree are all that stands behind the blank ahead of them.
KINDS = {
    "come": ("place", "number"),
    "leave": ("place", "number"),
    "length": ("place", "place", "number"),
    "charge": ("place", "number"),
    "open": ("place",),
    "shut": ("place",),
    "back": (),
    "cost": (),
    "goings": (),
    "best": (),
    "lets": ("paper",),
    "paper": (),
    "holds": ("number", "tree"),
    "exchanges": (),
    "cover": ("number",),
    "case": (),
}
ANSWERS = {
    "come": say_come,
    "leave": say_leave,
    "length": say_length,
    "charge": say_charge,
    "open": say_open,
    "shut": say_shut,
    "back": say_back,
    "cost": say_cost,
    "goings": say_goings,
    "best": say_best,
    "lets": say_lets,
    "paper": say_paper,
    "holds": say_holds,
    "exchanges": say_exchanges,
    "cover": say_cover,
    "case": say_case,
}
