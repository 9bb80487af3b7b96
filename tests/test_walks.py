"""Promises [1], [4], [5] and [7], and rotorwalk/walks.py."""

import unittest
from copy import deepcopy

from examples import (
    Case, Chance, Failing, Model, all_hands, even_webs, lost_place, no_hands, no_places, ring, webs,
    wrong_lists,
)
from rotorwalk.errors import BadCount, BadHands, BadPlace, Endless, NotEven, WalkError
from rotorwalk.walks import round_of, settled
from rotorwalk.webs import Web
from rotorwalk.yards import Yard

SAMPLE = [[1, 2, 1], [3], [], [3, 0, 2]]
EVEN = [[2, 1], [1, 0], [3, 0], [2, 3]]
EIGHT = [[4, 0, 7], [2, 1], [6, 1], [7, 3, 4], [4, 3, 0], [0, 6, 7], [2, 5], [5, 3, 5]]


def by_model(rows, hands, walkers, pick=max):
    """What settled is to tell, by single steps."""
    model = Model(rows, hands)
    model.walkers = list(walkers)
    model.settle(pick)
    return model.told()


def some_groups(most=2):
    """Webs, hands and walkers that settle."""
    chance = Chance(17)
    for rows in webs():
        for hands in all_hands(rows, chance, most):
            walkers = [chance.pick((0, 0, 1, 2, 5)) for _ in rows]
            if lost_place(rows, walkers) is None:
                yield rows, hands, walkers


def some_starts(most=4):
    """Even webs, with hands and a place."""
    chance = Chance(19)
    for rows in even_webs():
        for hands in all_hands(rows, chance, most):
            yield rows, hands, chance.below(len(rows))


def walk(rows, hands, place, many):
    """The steps of one walker, as tuples of the place and the number of the way."""
    model = Model(rows, hands)
    model.walkers[place] = 1
    steps = []
    for _ in range(many):
        steps.append((place, model.hands[place]))
        place = model.step(place)
    return steps


def is_round(steps, ahead, ways):
    """Whether the steps are in a round behind so many, from the document's words."""
    first = steps[ahead:ahead + ways]
    return (
        len(set(first)) == ways
        and all(steps[at] == steps[at + ways] for at in range(ahead, len(steps) - ways))
    )


class Settled(Case):
    def test_by_hand(self):
        web = Web([[1, 2], [0, 3], [], []])
        self.assertEqual(
            settled(web, [0, 0, 0, 0], [1, 0, 0, 0]),
            ([2, 1, 0, 0], [0, 1, 0, 0], [0, 0, 1, 0]),
        )
        self.assertEqual(
            settled(web, [1, 1, 0, 0], [1, 1, 3, 0]),
            ([1, 1, 0, 0], [0, 0, 0, 0], [0, 0, 4, 1]),
        )

    def test_as_the_document_says(self):
        many = 0
        for rows, hands, walkers in some_groups():
            many += 1
            self.assertEqual(
                settled(Web(rows), hands, walkers), by_model(rows, hands, walkers)
            )
        self.assertGreater(many, 1000)

    def test_the_same_as_a_yard(self):
        for rows, hands, walkers in some_groups(1):
            yard = Yard(Web(rows), hands)
            for place, many in enumerate(walkers):
                if many:
                    yard.put(place, many)
            yard.settle()
            self.assertEqual(
                settled(Web(rows), hands, walkers),
                (yard.left(), yard.hands(), yard.walkers()),
            )

    def test_a_tuple_of_three_lists_of_numbers(self):
        answer = settled(Web(SAMPLE), [2, 0, 0, 1], [3, 0, 1, 0])
        self.assertIs(type(answer), tuple)
        self.assertEqual([type(part) for part in answer], [list] * 3)
        for part in answer:
            self.assertEqual([type(item) for item in part], [int] * 4)

    def test_without_walkers_and_at_rests(self):
        for rows in webs():
            hands = [max(0, len(row) - 1) for row in rows]
            none = [0] * len(rows)
            self.assertEqual(settled(Web(rows), hands, none), (none, hands, none))
        self.assertEqual(
            settled(Web([[], [1], []]), [0] * 3, [1000, 0, 2]),
            ([0] * 3, [0] * 3, [1000, 0, 2]),
        )

    def test_a_thousand_at_each_place(self):
        rows = [[place + 1] for place in range(7)] + [[]]
        self.assertEqual(
            settled(Web(rows), [0] * 8, [1000] * 8),
            ([1000 * k for k in range(1, 8)] + [0], [0] * 8, [0] * 7 + [8000]),
        )
        chain = [[0, 0, place + 1] for place in range(7)] + [[]]
        left, hands, walkers = settled(Web(chain), [0] * 8, [1000] * 8)
        self.assertEqual((sum(left), walkers), (21324000, [0] * 7 + [8000]))

    def test_what_was_handed_in_is_not_changed(self):
        for rows, hands, walkers in some_groups(1):
            web = Web(rows)
            before = deepcopy((hands, walkers))
            settled(web, hands, walkers)
            self.assertEqual((hands, walkers), before)
            self.assertEqual(web.rows(), rows)

    def test_what_was_handed_in_is_no_part_of_the_answer(self):
        hands, walkers = [0, 0, 0], [0, 0, 0]
        web = Web([[1], [2], []])
        answer = settled(web, hands, walkers)
        hands[0] = walkers[0] = 5
        self.assertEqual(answer, ([0] * 3,) * 3)
        for part in answer:
            part.append(7)
        self.assertEqual((hands, walkers), ([5, 0, 0], [5, 0, 0]))
        self.assertEqual(settled(web, [0] * 3, [0] * 3), ([0] * 3,) * 3)

    def test_the_three_lists_are_three(self):
        left, hands, walkers = settled(Web([[]]), [0], [0])
        left.append(1)
        self.assertEqual((hands, walkers), ([0], [0]))
        hands.append(2)
        self.assertEqual(walkers, [0])

    def test_groups_one_behind_the_other(self):
        chance = Chance(23)
        for rows, hands, walkers in some_groups(1):
            web = Web(rows)
            whole = settled(web, hands, walkers)
            first = [chance.below(many + 1) for many in walkers]
            rest = [many - one for many, one in zip(walkers, first)]
            for groups in ((first, rest), (rest, first)):
                at, lefts, stand = hands, [0] * len(rows), [0] * len(rows)
                for group in groups:
                    left, at, came = settled(web, at, group)
                    lefts = [a + b for a, b in zip(lefts, left)]
                    stand = [a + b for a, b in zip(stand, came)]
                self.assertEqual((lefts, at, stand), whole)

    def test_endless(self):
        refused = 0
        chance = Chance(29)
        for rows in webs():
            walkers = [chance.below(3) for _ in rows]
            place = lost_place(rows, walkers)
            if place is not None:
                refused += 1
                hands = [0] * len(rows)
                error = self.check_refused(Endless, settled, Web(rows), hands, walkers)
                self.assertEqual(error.place, place)
                self.assertEqual(hands, [0] * len(rows))
        self.assertGreater(refused, 500)

    def test_bad_hands_then_bad_counts_then_endless(self):
        for rows in ([[]], [[0]], SAMPLE, ring(8, 2), [[1, 2], [], [0]]):
            web = Web(rows)
            hands, walkers = [0] * len(rows), [1] * len(rows)
            bad_walkers = wrong_lists([1000] * len(rows), lambda at: [1001] + no_places(1001))
            for thing in no_hands(rows) + [None]:
                self.check_refused(BadHands, settled, web, thing, walkers)
                self.check_refused(BadHands, settled, web, thing, None)
                self.check_refused(BadHands, settled, web, thing, Failing())
            for thing in bad_walkers:
                self.check_refused(BadCount, settled, web, hands, thing)
            self.assertEqual((hands, walkers), ([0] * len(rows), [1] * len(rows)))
            if lost_place(rows, walkers) is None:
                self.assertEqual(
                    settled(web, hands, walkers), by_model(rows, hands, walkers)
                )

    def test_counts_at_the_edges(self):
        web = Web([[1], []])
        self.assertEqual(settled(web, [0, 0], [1000, 0]), ([1000, 0], [0, 0], [0, 1000]))
        self.assertEqual(settled(web, [0, 0], [0, 1000]), ([0, 0], [0, 0], [0, 1000]))
        for walkers in ([1001, 0], [0, 1001], [-1, 0], [0, -1], [0], [0, 0, 0], (0, 0)):
            self.check_refused(BadCount, settled, web, [0, 0], walkers)

    def test_refused_lists_are_not_changed(self):
        web = Web([[1], []])
        for hands, walkers in (([1, 0], [0, 0]), ([0, 0], [0, 1001]), ([0, 0], [None, 0])):
            before = deepcopy((hands, walkers))
            self.assertRaises(WalkError, settled, web, hands, walkers)
            self.assertEqual((hands, walkers), before)


class Rounds(Case):
    def test_by_hand(self):
        web = Web([[1], [0, 1]])
        self.assertEqual(round_of(web, [0, 0], 0), (1, [(1, 0), (0, 0), (1, 1)]))
        self.assertEqual(round_of(web, [0, 1], 0), (0, [(0, 0), (1, 1), (1, 0)]))
        self.assertEqual(round_of(web, [0, 0], 1), (0, [(1, 0), (0, 0), (1, 1)]))

    def test_one_place(self):
        self.assertEqual(round_of(Web([[0]]), [0], 0), (0, [(0, 0)]))
        self.assertEqual(round_of(Web([[0, 0]]), [1], 0), (0, [(0, 1), (0, 0)]))
        self.assertEqual(round_of(Web([[0, 0, 0]]), [1], 0), (0, [(0, 1), (0, 2), (0, 0)]))

    def test_a_ring_of_eight(self):
        answer = round_of(Web(ring(8)), [0] * 8, 5)
        self.assertEqual(answer, (0, [(place % 8, 0) for place in range(5, 13)]))

    def test_ways_side_by_side(self):
        web = Web(ring(2, 3))
        self.assertEqual(
            round_of(web, [2, 0], 1), (0, [(1, 0), (0, 2), (1, 1), (0, 0), (1, 2), (0, 1)])
        )

    def test_kinds(self):
        ahead, steps = answer = round_of(Web(EVEN), [0, 1, 0, 1], 3)
        self.assertIs(type(answer), tuple)
        self.assertIs(type(ahead), int)
        self.assertIs(type(steps), list)
        for step in steps:
            self.assertIs(type(step), tuple)
            self.assertEqual([type(item) for item in step], [int, int])

    def test_many_steps_ahead(self):
        ahead, steps = round_of(Web(EVEN), [0, 1, 0, 1], 3)
        self.assertEqual((ahead, len(steps)), (12, 8))
        ahead, steps = round_of(Web(EIGHT), [2, 0, 0, 1, 1, 2, 1, 1], 3)
        self.assertEqual((ahead, len(steps)), (61, 21))

    def test_as_the_document_says(self):
        most = 0
        sizes = set()
        for rows, hands, place in some_starts():
            ahead, steps = round_of(Web(rows), hands, place)
            ways = sum(len(row) for row in rows)
            self.assertLessEqual(ahead, ways * len(rows))
            each_way = [(at, way) for at, row in enumerate(rows) for way in range(len(row))]
            self.assertEqual(sorted(steps), each_way)
            whole = walk(rows, hands, place, ahead + 4 * ways)
            self.assertEqual(whole[ahead:], steps * 4)
            least = min(k for k in range(ahead + 1) if is_round(whole, k, ways))
            self.assertEqual(ahead, least)
            most = max(most, ahead)
            sizes.add((len(rows), max(map(len, rows))))
        self.assertGreater(most, 30)
        wanted = {(many, ways) for many in range(1, 9) for ways in (1, 2, 3)}
        self.assertEqual(sizes, wanted)

    def test_all_hands_and_places_of_small_webs(self):
        chance = Chance(31)
        for rows in ([[1], [0, 1]], [[0, 1], [0, 1]], [[0, 0, 1], [0, 1, 1]], EVEN, EIGHT):
            ways = sum(len(row) for row in rows)
            for hands in all_hands(rows, chance, 200):
                for place in range(len(rows)):
                    ahead, steps = round_of(Web(rows), hands, place)
                    whole = walk(rows, hands, place, ahead + 2 * ways)
                    self.assertEqual(whole[ahead:], steps * 2)
                    if ahead > 0:
                        self.assertFalse(is_round(whole[ahead - 1:], 0, ways))

    def test_from_where_the_round_begins_nothing_is_ahead(self):
        for rows, hands, place in some_starts(2):
            ahead, steps = round_of(Web(rows), hands, place)
            model = Model(rows, hands)
            model.walkers[place] = 1
            at = place
            for _ in range(ahead):
                at = model.step(at)
            self.assertEqual(round_of(Web(rows), model.hands, at), (0, steps))
            if ahead > 0:
                model.back()
                before = model.walkers.index(1)
                self.assertEqual(round_of(Web(rows), model.hands, before), (1, steps))

    def test_what_was_handed_in_is_not_changed(self):
        for rows, hands, place in some_starts(1):
            web = Web(rows)
            before = list(hands)
            first = round_of(web, hands, place)
            self.assertEqual(hands, before)
            self.assertEqual(web.rows(), rows)
            self.assertEqual(round_of(web, hands, place), first)

    def test_what_was_told_is_changed_by_the_asker(self):
        web = Web([[1], [0, 1]])
        round_of(web, [0, 0], 0)[1].clear()
        self.assertEqual(round_of(web, [0, 0], 0), (1, [(1, 0), (0, 0), (1, 1)]))

    def test_not_even_then_bad_hands_then_bad_places(self):
        for rows in ([[]], [[0, 1], [1]], [[0], [1]], [[1], [0, 0]], SAMPLE, [[1], [0], []]):
            web = Web(rows)
            hands = [0] * len(rows)
            for thing in [hands, None] + no_hands(rows):
                for place in (0, -1, None, Failing()):
                    self.check_refused(NotEven, round_of, web, thing, place)
        for rows in ([[0]], [[0, 0, 0]], [[1], [0, 1]], EVEN, ring(8, 3)):
            web = Web(rows)
            hands = [0] * len(rows)
            for thing in no_hands(rows) + [None]:
                for place in (0, -1, None, Failing()):
                    self.check_refused(BadHands, round_of, web, thing, place)
            for thing in no_places(len(rows)):
                self.check_refused(BadPlace, round_of, web, hands, thing)
            self.assertEqual(hands, [0] * len(rows))
            self.assertEqual(len(round_of(web, hands, len(rows) - 1)[1]), sum(map(len, rows)))


class TheInterface(Case):
    def test_all_is_defined_in_its_file(self):
        self.assertEqual(settled.__module__, "rotorwalk.walks")
        self.assertEqual(round_of.__module__, "rotorwalk.walks")

    def test_the_names_of_the_arguments(self):
        self.assertEqual(settled(web=Web([[]]), hands=[0], walkers=[1]), ([0], [0], [1]))
        self.assertEqual(round_of(web=Web([[0]]), hands=[0], place=0), (0, [(0, 0)]))


if __name__ == "__main__":
    unittest.main()
