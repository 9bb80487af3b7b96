"""Webs and things of other kinds that several tests hand in."""

from itertools import product


def all_rows(many, most):
    """Every list of up to most ways on a web of so many places."""
    return [
        list(row)
        for length in range(most + 1)
        for row in product(range(many), repeat=length)
    ]


def small_webs():
    """Every web of one or two places, and those of three with up to two ways each."""
    for many, most in ((1, 3), (2, 3), (3, 2)):
        for rows in product(all_rows(many, most), repeat=many):
            yield [list(row) for row in rows]


def large_webs():
    """Webs of four to eight places, the same ones in each run."""
    state = 1
    for many in range(4, 9):
        for _ in range(60):
            rows = []
            for _ in range(many):
                row = []
                state = (state * 1103515245 + 12345) & 0x7FFFFFFF
                for _ in range((state >> 16) % 4):
                    state = (state * 1103515245 + 12345) & 0x7FFFFFFF
                    row.append((state >> 16) % many)
                rows.append(row)
            yield rows


def webs():
    """Webs of one to eight places with none to three ways each."""
    yield from small_webs()
    yield from large_webs()


class Failing:
    """A thing that fails whatever it is asked."""

    def __getattribute__(self, name):
        raise RuntimeError(name)

    __eq__ = __lt__ = __le__ = __gt__ = __ge__ = __getattribute__
    __len__ = __iter__ = __bool__ = __int__ = __index__ = __hash__ = (
        lambda self: Failing.__getattribute__(self, "asked")
    )

    def __repr__(self):
        return "Failing()"


class Posing:
    """A thing that says of itself that it is of another class, and equals all."""

    def __init__(self, kind):
        self.kind = kind

    @property
    def __class__(self):
        return self.kind

    def __eq__(self, other):
        return True

    __hash__ = None


class Agreeing(type):
    """A class of classes that equal every class."""

    def __eq__(cls, other):
        return True

    __hash__ = type.__hash__


class Alike(metaclass=Agreeing):
    """A thing whose class equals every class."""


def no_numbers():
    """Things of all kinds that are no number."""
    return [
        True, False, None, 0.0, 1.0, float("nan"), float("inf"), 0j,
        "", "0", "1", b"", b"0", bytearray(b"0"),
        (), (0,), [], [0], [[0]], {}, {0: 0}, set(), {0}, frozenset([0]),
        range(1), iter([0]), (n for n in [0]), int, list, len, lambda: 0,
        object(), NotImplemented, ..., ValueError("0"),
        Failing(), Posing(int), Posing(list), Alike(),
    ]


def no_places(many):
    """Things of all kinds that are no place of a web of so many places."""
    return [-1, -many, many, many + 1, 2 ** 70, -2 ** 70] + no_numbers()
