"""What several tests need: things of every kind, maps to ask of, and a limit on waiting."""

import contextlib
import itertools
import reprlib
import signal

from openhouses.cases import case_of
from openhouses.maps import map_of


class Plain:
    """An object of no kind that the program knows."""


class Touchy:
    """An object that cannot be compared, counted, hashed or iterated."""

    def refuse(self, *rest):
        raise AssertionError("a thing of an unknown kind was touched")

    __eq__ = __ne__ = __lt__ = __gt__ = __le__ = __ge__ = refuse
    __len__ = __iter__ = __hash__ = __bool__ = __contains__ = __getitem__ = refuse


class Agreeing:
    """An object that says that it equals whatever it is compared with."""

    def __eq__(self, other):
        return True

    def __hash__(self):
        return hash("a")


def nested(depth, wrap, inner):
    """The inner thing, wrapped so many times."""
    for turn in range(depth):
        inner = wrap(inner)
    return inner


def deep_things():
    """Things nested in one another, from one to thirty deep."""
    wraps = [
        lambda inner: [inner],
        lambda inner: (inner,),
        lambda inner: {"a": inner},
        lambda inner: [inner, inner],
        lambda inner: ("a", inner, 1),
        lambda inner: (inner, inner, inner),
    ]
    inners = ["a", 1, None, [], {}]
    return [nested(depth, wrap, inner) for wrap in wraps for inner in inners for depth in (1, 2, 30)]


def odd_things():
    """Things of every kind that are no texts and no whole numbers above 0."""
    plain = [
        None, True, False, 0, -1, -(10 ** 30), b"", b"a", b"abc", bytearray(b"a"),
        [], ["a"], ["a", "b"], (), ("a",), ("a", "b"), {}, {"a": 1}, {"a": "a"}, set(), {"a"}, frozenset("a"),
        range(3), iter("a"), Plain, Plain(), Touchy(), Agreeing(), len, lambda: "a", object(), ValueError("a"), str, int,
        NotImplemented, Ellipsis,
    ]
    return plain + deep_things()


def shown(thing):
    """A short text of the thing: written out whole, one of two branches thirty deep would never end."""
    return reprlib.repr(thing)


def small_names(many):
    """So many names, rising: a, b, .. z, za, zb .."""
    letters = "abcdefghijklmnopqrstuvwxyz"
    return ([letter for letter in letters] + ["z" + letter for letter in letters])[:many]


def line_ways(names, length):
    """Ways that join the names in this order to a line."""
    return [(one, other, length) for one, other in zip(names, names[1:])]


def all_ways(names, length):
    """A way of this length between each two of the names."""
    return [(one, other, length) for one, other in itertools.combinations(names, 2)]


def lengths_of(web):
    """The length of each way, by its places either way about."""
    lengths = {}
    for one, other, length in web[1]:
        lengths[one, other] = lengths[other, one] = length
    return lengths


def table_of_fars(web):
    """How far it is between each two, by letting each place in turn stand between."""
    table = {(one, other): 0 for one, other in zip(web[0], web[0])}
    table.update(lengths_of(web))
    for middle, one, other in itertools.product(web[0], repeat=3):
        if (one, middle) in table and (middle, other) in table:
            by_middle = table[one, middle] + table[middle, other]
            table[one, other] = min(by_middle, table.get((one, other), by_middle))
    return table


def chance_tree(chance, many, most):
    """A tree with so many places, lengths from 1 to most; its root may stand anywhere in it."""
    names = chance.sample(small_names(30), many)
    ways = [(names[at], chance.choice(names[:at]), chance.randint(1, most)) for at in range(1, many)]
    return map_of(names, ways)


def chance_map(chance, many, most):
    """A map with so many places, a chance tree with some more ways, lengths from 1 to most."""
    places, ways = chance_tree(chance, many, most)
    joined = [(one, other) for one, other, length in ways]
    spare = [pair for pair in itertools.combinations(places, 2) if pair not in joined]
    more = chance.sample(spare, chance.randint(0, len(spare)))
    return map_of(places, list(ways) + [(one, other, chance.randint(1, most)) for one, other in more])


def chance_case(chance, web, most):
    """A case on the map with chance sites, folk and limit, numbers up to most."""
    sites = chance.sample(web[0], chance.randint(1, min(10, len(web[0]))))
    folk = chance.sample(web[0], chance.randint(1, len(web[0])))
    return case_of(
        web,
        [(place, chance.randint(0, most)) for place in sites],
        [(place, chance.randint(1, most)) for place in folk],
        chance.choice((None, 1, 2, 3, len(sites), 11)),
    )


@contextlib.contextmanager
def within(seconds):
    """What takes longer than this fails instead of hanging."""
    def stop(number, frame):
        raise AssertionError(f"not done within {seconds} seconds")

    before = signal.signal(signal.SIGALRM, stop)
    signal.alarm(seconds)
    try:
        yield
    finally:
        signal.alarm(0)
        signal.signal(signal.SIGALRM, before)


def broken_rows(rows, others):
    """The tuple of rows (place, something), with one thing broken each time; others are names that don't stand there."""
    broken = [list(rows), (), None, True, dict(rows), rows[0], (rows,), [rows], rows + rows, "rows", rows + (None,)]
    for at, row in enumerate(rows):
        ahead, behind = rows[:at], rows[at + 1:]
        place, thing = row
        wrong = [
            list(row), (place,), (place, thing, thing), (place, thing, None), (thing, place), (thing,), (), (row,),
            (place, (thing,)), (place, [thing]), ((place,), thing), ([place], thing), place, thing, None, True, {place: thing},
        ]
        wrong += [(other, thing) for other in list(others) + ["", place + "z", place.upper(), None, 0, True]]
        broken += [ahead + (instead,) + behind for instead in wrong]
        broken += [ahead + behind, ahead + (row, row) + behind, ahead + behind + (row, row), (row,) + ahead + (row,) + behind]
        broken += [ahead + (row, (other, thing)) + behind for other in others]
        if behind:
            broken += [ahead + (behind[0], row) + behind[1:], behind + ahead + (row,)]
    if len(rows) > 1:
        broken += [rows[::-1], rows[1:], rows[:-1]]
    return [thing for thing in broken if not (type(thing) is tuple and thing == rows)]
