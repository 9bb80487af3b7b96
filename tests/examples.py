"""Webs and things of other kinds that several tests hand in, and what they share."""

import unittest
from itertools import product

from rotorwalk.errors import WalkError


class Case(unittest.TestCase):
    """Tests of what is refused."""

    def check_refused(self, kind, ask, *args):
        with self.assertRaises(WalkError) as caught:
            ask(*args)
        self.assertIs(type(caught.exception), kind)
        self.assertIsInstance(caught.exception, ValueError)
        return caught.exception


def all_rows(many, most):
    """Every list of up to most ways on a web of so many places."""
    return [
        list(row)
        for length in range(most + 1)
        for row in product(range(many), repeat=length)
    ]


def small_webs():
    """Every web of one or two places, and those of three with up to two ways each."""
    for many, most in ((1, 3), (2, 3), (3, 2)):
        for rows in product(all_rows(many, most), repeat=many):
            yield [list(row) for row in rows]


class Chance:
    """Numbers without a plain order, the same ones in each run."""

    def __init__(self, state=1):
        self.state = state

    def below(self, most):
        self.state = (self.state * 1103515245 + 12345) & 0x7FFFFFFF
        return (self.state >> 16) % most

    def pick(self, things):
        return things[self.below(len(things))]

    def shuffled(self, things):
        left = list(things)
        return [left.pop(self.below(len(left))) for _ in things]


def large_webs():
    """Webs of four to eight places, the same ones in each run."""
    chance = Chance()
    for many in range(4, 9):
        for _ in range(60):
            yield [
                [chance.below(many) for _ in range(chance.below(4))] for _ in range(many)
            ]


def webs():
    """Webs of one to eight places with none to three ways each."""
    yield from small_webs()
    yield from large_webs()


def ring(many, ways=1):
    """A ring through all places, so many ways side by side at each."""
    return [[(place + 1) % many] * ways for place in range(many)]


def closure(rows):
    """Which places lead to which, worked out by joining pairs of ways."""
    places = range(len(rows))
    leads = [[a == b or b in rows[a] for b in places] for a in places]
    for middle in places:
        for a in places:
            for b in places:
                leads[a][b] = leads[a][b] or (leads[a][middle] and leads[middle][b])
    return leads


def even(rows):
    """Whether the web is even, said from the words of the document."""
    ends = [place for row in rows for place in row]
    return (
        all(len(row) > 0 for row in rows)
        and all(ends.count(place) == len(row) for place, row in enumerate(rows))
        and all(all(row) for row in closure(rows))
    )


def with_rings(chance, many):
    """A web of rings laid over one another until it is even, or None."""
    rows = [[] for _ in range(many)]
    while not even(rows):
        free = [place for place in range(many) if len(rows[place]) < 3]
        if not free:
            return None
        most = min(len(free), chance.pick((2, 3, 8)))
        places = chance.shuffled(free)[:1 + chance.below(most)]
        for place, other in zip(places, places[1:] + places[:1]):
            rows[place].append(other)
    return [chance.shuffled(row) for row in rows]


def even_webs():
    """Even webs of one to eight places with one to three ways each."""
    yield from (rows for rows in webs() if even(rows))
    chance = Chance()
    for many in range(3, 9):
        for ways in (1, 2, 3):
            yield ring(many, ways)
        made = [with_rings(chance, many) for _ in range(60)]
        yield from (rows for rows in made if rows is not None)


def all_hands(rows, chance, most):
    """All hands of a web, or so many of them where there are more."""
    found = list(product(*[range(max(1, len(row))) for row in rows]))
    if len(found) > most:
        found = [chance.pick(found) for _ in range(most)]
    return [list(hands) for hands in found]


def lost_place(rows, walkers):
    """The place that Endless is to have, or None: said from the document's words."""
    leads = closure(rows)
    places = range(len(rows))
    rests = [place for place in places if not rows[place]]
    lost = [
        place for place in places
        if any(walkers[start] and leads[start][place] for start in places)
        and not any(leads[place][rest] for rest in rests)
    ]
    return min(lost, default=None)


class Model:
    """A yard said from the document's words, one step after the other."""

    def __init__(self, rows, hands=None):
        self.rows = rows
        self.hands = list(hands or [0] * len(rows))
        self.walkers = [0] * len(rows)
        self.left = [0] * len(rows)
        self.steps = []

    def told(self):
        return self.left, self.hands, self.walkers

    def can_step(self):
        return [
            place for place, row in enumerate(self.rows) if row and self.walkers[place] > 0
        ]

    def step(self, place):
        way = self.hands[place]
        other = self.rows[place][way]
        self.walkers[place] -= 1
        self.walkers[other] += 1
        self.left[place] += 1
        self.hands[place] = way + 1 if way + 1 < len(self.rows[place]) else 0
        self.steps.append((place, other, way))
        return other

    def back(self):
        place, other, way = self.steps.pop()
        self.walkers[other] -= 1
        self.walkers[place] += 1
        self.left[place] -= 1
        self.hands[place] = way
        return place, other

    def settle(self, pick):
        """Step until all walkers are at rests: pick tells who steps next."""
        many = 0
        places = self.can_step()
        while places:
            self.step(pick(places))
            many += 1
            places = self.can_step()
        return many


class Failing:
    """A thing that fails whatever it is asked."""

    def __getattribute__(self, name):
        raise RuntimeError(name)

    __eq__ = __lt__ = __le__ = __gt__ = __ge__ = __getattribute__
    __len__ = __iter__ = __bool__ = __int__ = __index__ = __hash__ = (
        lambda self: Failing.__getattribute__(self, "asked")
    )

    def __repr__(self):
        return "Failing()"


class Posing:
    """A thing that says of itself that it is of another class, and equals all."""

    def __init__(self, kind):
        self.kind = kind

    @property
    def __class__(self):
        return self.kind

    def __eq__(self, other):
        return True

    __hash__ = None


class Agreeing(type):
    """A class of classes that equal every class."""

    def __eq__(cls, other):
        return True

    __hash__ = type.__hash__


class Alike(metaclass=Agreeing):
    """A thing whose class equals every class."""


def no_numbers():
    """Things of all kinds that are no number."""
    return [
        True, False, None, 0.0, 1.0, float("nan"), float("inf"), 0j,
        "", "0", "1", b"", b"0", bytearray(b"0"),
        (), (0,), [], [0], [[0]], {}, {0: 0}, set(), {0}, frozenset([0]),
        range(1), iter([0]), (n for n in [0]), int, list, len, lambda: 0,
        object(), NotImplemented, ..., ValueError("0"),
        Failing(), Posing(int), Posing(list), Alike(),
    ]


def no_places(many):
    """Things of all kinds that are no place of a web of so many places."""
    return [-1, -many, many, many + 1, 2 ** 70, -2 ** 70] + no_numbers()


def wrong_lists(good, wrong_items):
    """Things of all kinds that are not like the list good: of another kind, of
    another length, with an item that is none; wrong_items(at) are those."""
    found = [thing for thing in no_numbers() if type(thing) is not list]
    found += [0, 1, -1, 2 ** 70, tuple(good), dict(enumerate(good)), str(good), iter(good)]
    found += [[], [good], good[:-1], good + [0], good + good, [0] + good, good + [None]]
    for at in range(len(good)):
        for thing in wrong_items(at):
            wrong = list(good)
            wrong[at] = thing
            found.append(wrong)
    own = []
    own.append(own)
    return found + [own]


def no_hands(rows):
    """Things of all kinds but None that are no hands of the web."""
    good = [max(0, len(row) - 1) for row in rows]
    return [thing for thing in wrong_lists(good, lambda at: no_places(good[at] + 1))
            if thing is not None]
