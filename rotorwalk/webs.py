"""Webs: places with ways out, which lead to places."""

from rotorwalk.checks import is_number
from rotorwalk.errors import BadPlace, BadWeb

MOST_PLACES = 8
MOST_WAYS = 3


def is_web(thing):
    """True if thing is a list that tells a web, else False."""
    if type(thing) is not list or not 1 <= len(thing) <= MOST_PLACES:
        return False
    return all([_is_row(row, len(thing)) for row in thing])


def _is_row(thing, many):
    """True if thing is a list that tells the ways of one of so many places."""
    if type(thing) is not list or len(thing) > MOST_WAYS:
        return False
    return all([is_number(place, 0, many - 1) for place in thing])


def _reached(ways, start):
    """The places to which one comes from start, itself among them."""
    reached = [start]
    waiting = [start]
    while waiting:
        row = ways[waiting.pop()]
        for place in row:
            if place not in reached:
                reached.append(place)
                waiting.append(place)
    return reached


def _ways_in(ways, place):
    """How many ways lead to place."""
    return sum([row.count(place) for row in ways])


class Web:
    """Places, numbered from 0, and the ways that lead out of them."""

    def __init__(self, rows):
        if not is_web(rows):
            raise BadWeb("a web is a list of 1 to 8 lists of 0 to 3 places each")
        self._ways = tuple([tuple(row) for row in rows])

    def rows(self):
        """A list for each place: the places to which its ways lead, in order."""
        return [list(row) for row in self._ways]

    def many(self):
        """How many places the web has."""
        return len(self._ways)

    def rests(self):
        """The places without ways, rising."""
        return [place for place in range(self.many()) if not self._ways[place]]

    def is_rest(self, place):
        """True if place has no ways, else False; BadPlace."""
        self.check_place(place)
        return not self._ways[place]

    def comes(self, place, other):
        """True if one comes from place to other, else False; BadPlace."""
        self.check_place(place)
        self.check_place(other)
        return other in _reached(self._ways, place)

    def is_even(self):
        """True if the web is even, else False."""
        return not self.rests() and self._is_balanced() and self._is_joined()

    def check_place(self, place):
        """Refuse what is no place of this web."""
        if not is_number(place, 0, self.many() - 1):
            raise BadPlace(f"a place of this web is a number from 0 to {self.many() - 1}")

    def _is_balanced(self):
        """True if at each place as many ways come in as go out."""
        return all([
            _ways_in(self._ways, place) == len(self._ways[place])
            for place in range(self.many())
        ])

    def _is_joined(self):
        """True if one comes from each place to each other one."""
        return all([
            len(_reached(self._ways, place)) == self.many()
            for place in range(self.many())
        ])
