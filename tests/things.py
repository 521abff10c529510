"""What several tests need: things of every kind, maps to ask of, and a limit on waiting."""

import contextlib
import itertools
import reprlib
import signal


class Plain:
    """An object of no kind that the program knows."""


class Touchy:
    """An object that cannot be compared, counted, hashed or iterated."""

    def refuse(self, *rest):
        raise AssertionError("a thing of an unknown kind was touched")

    __eq__ = __ne__ = __lt__ = __gt__ = __le__ = __ge__ = refuse
    __len__ = __iter__ = __hash__ = __bool__ = __contains__ = __getitem__ = refuse


class Agreeing:
    """An object that says that it equals whatever it is compared with."""

    def __eq__(self, other):
        return True

    def __hash__(self):
        return hash("a")


def nested(depth, wrap, inner):
    """The inner thing, wrapped so many times."""
    for turn in range(depth):
        inner = wrap(inner)
    return inner


def deep_things():
    """Things nested in one another, from one to thirty deep."""
    wraps = [
        lambda inner: [inner],
        lambda inner: (inner,),
        lambda inner: {"a": inner},
        lambda inner: [inner, inner],
        lambda inner: ("a", inner, 1),
        lambda inner: (inner, inner, inner),
    ]
    inners = ["a", 1, None, [], {}]
    return [nested(depth, wrap, inner) for wrap in wraps for inner in inners for depth in (1, 2, 30)]


def odd_things():
    """Things of every kind that are no texts and no whole numbers above 0."""
    plain = [
        None, True, False, 0, -1, -(10 ** 30), b"", b"a", b"abc", bytearray(b"a"),
        [], ["a"], ["a", "b"], (), ("a",), ("a", "b"), {}, {"a": 1}, {"a": "a"}, set(), {"a"}, frozenset("a"),
        range(3), iter("a"), Plain, Plain(), Touchy(), Agreeing(), len, lambda: "a", object(), ValueError("a"), str, int,
        NotImplemented, Ellipsis,
    ]
    return plain + deep_things()


def shown(thing):
    """A short text of the thing: written out whole, one of two branches thirty deep would never end."""
    return reprlib.repr(thing)


def small_names(many):
    """So many names, rising: a, b, .. z, za, zb .."""
    letters = "abcdefghijklmnopqrstuvwxyz"
    return ([letter for letter in letters] + ["z" + letter for letter in letters])[:many]


def line_ways(names, length):
    """Ways that join the names in this order to a line."""
    return [(one, other, length) for one, other in zip(names, names[1:])]


def all_ways(names, length):
    """A way of this length between each two of the names."""
    return [(one, other, length) for one, other in itertools.combinations(names, 2)]


@contextlib.contextmanager
def within(seconds):
    """What takes longer than this fails instead of hanging."""
    def stop(number, frame):
        raise AssertionError(f"not done within {seconds} seconds")

    before = signal.signal(signal.SIGALRM, stop)
    signal.alarm(seconds)
    try:
        yield
    finally:
        signal.alarm(0)
        signal.signal(signal.SIGALRM, before)
