"""Yards: walkers on a web, the hands that they turn, and the steps they made."""

from rotorwalk.checks import check_hands, is_number
from rotorwalk.errors import BadCount, Endless, NoStep

MOST_WALKERS = 1000


class Yard:
    """A web with hands, and walkers at its places."""

    def __init__(self, web, hands=None):
        if hands is None:
            hands = [0] * web.many()
        check_hands(web, hands)
        self._web = web
        self._ways = web.rows()
        self._hands = list(hands)
        self._walkers = [0] * web.many()
        self._left = [0] * web.many()
        # The steps that are not taken back: pairs of a place and how many
        # steps in a row left it. Where they led, the hand there tells.
        self._runs = []

    def hands(self):
        """For each place the number of the way to which its hand points."""
        return list(self._hands)

    def walkers(self):
        """How many walkers stand at each place."""
        return list(self._walkers)

    def left(self):
        """How often each place was left, by steps that are not taken back."""
        return list(self._left)

    def put(self, place, many=1):
        """So many walkers more stand at place; BadPlace, BadCount."""
        self._web.check_place(place)
        if not is_number(many, 1, MOST_WALKERS):
            raise BadCount(f"walkers are put by a number from 1 to {MOST_WALKERS}")
        self._walkers[place] += many

    def step(self, place):
        """A walker at place steps: the place to which it comes; BadPlace, NoStep."""
        if self._web.is_rest(place):
            raise NoStep("from a rest there is no step")
        if self._walkers[place] == 0:
            raise NoStep("no walker stands at this place")
        other = self._pointed(place)
        self._leave(place, 1)
        return other

    def back(self):
        """The last step is taken back: the places from and to which it went; NoStep."""
        if not self._runs:
            raise NoStep("there is no step to take back")
        place, times = self._runs.pop()
        if times > 1:
            self._runs.append((place, times - 1))
        self._turn(place, -1)
        other = self._pointed(place)
        self._walkers[other] -= 1
        self._walkers[place] += 1
        self._left[place] -= 1
        return place, other

    def settle(self):
        """All steps until all walkers are at rests: how many they were; Endless."""
        self._check_ends()
        before = sum(self._left)
        places = self._unsettled()
        while places:
            for place in places:
                self._leave(place, self._walkers[place])
            places = self._unsettled()
        return sum(self._left) - before

    def copied(self):
        """Another yard alike, its steps too."""
        yard = Yard(self._web, self._hands)
        yard._walkers = list(self._walkers)
        yard._left = list(self._left)
        yard._runs = list(self._runs)
        return yard

    def _pointed(self, place):
        """The place to which the hand at place points."""
        return self._ways[place][self._hands[place]]

    def _turn(self, place, times):
        """Turn the hand at place on so many times; back if below 0."""
        self._hands[place] = (self._hands[place] + times) % len(self._ways[place])

    def _leave(self, place, times):
        """So many walkers at place step, one behind the other."""
        ways = self._ways[place]
        # Many walkers go at once, since settling may take millions of steps:
        # each way is gone equally often, and the next ones, by the hand, once more.
        each, more = divmod(times, len(ways))
        self._walkers[place] -= times
        for other in ways:
            self._walkers[other] += each
        for _ in range(more):
            self._walkers[self._pointed(place)] += 1
            self._turn(place, 1)
        self._left[place] += times
        self._runs.append((place, times))

    def _unsettled(self):
        """The places that are no rests and where walkers stand."""
        return [
            place for place, many in enumerate(self._walkers)
            if many > 0 and not self._web.is_rest(place)
        ]

    def _check_ends(self):
        """Refuse to settle if there is a place where a walker may be lost."""
        for place in range(self._web.many()):
            if self._may_come(place) and not self._is_rest_ahead(place):
                raise Endless(place)

    def _may_come(self, place):
        """True if one comes to place from where a walker stands, else False."""
        return any([
            many > 0 and self._web.comes(start, place)
            for start, many in enumerate(self._walkers)
        ])

    def _is_rest_ahead(self, place):
        """True if one comes from place to a rest, else False."""
        return any([self._web.comes(place, rest) for rest in self._web.rests()])
