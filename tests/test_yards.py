"""Promises [1], [4], [5] and [6], and rotorwalk/yards.py."""

import unittest
from copy import deepcopy

from examples import (
    Case, Chance, Failing, Model, all_hands, lost_place, no_hands, no_numbers, no_places, ring,
    webs,
)
from rotorwalk.errors import BadCount, BadHands, BadPlace, Endless, NoStep
from rotorwalk.webs import Web
from rotorwalk.yards import Yard

# A way told twice, a way to the place itself, and a rest.
SAMPLE = [[1, 2, 1], [3], [], [3, 0, 2]]
# A chain in which one walker needs 3279 steps to come to the rest.
CHAIN = [[0, 0, place + 1] for place in range(7)] + [[]]


def told(yard):
    """All that a yard tells."""
    return yard.left(), yard.hands(), yard.walkers()


def some_yards(most=2):
    """Webs with some of their hands and walkers, few or none at each place."""
    chance = Chance(7)
    for rows in webs():
        for hands in all_hands(rows, chance, most):
            yield rows, hands, [chance.pick((0, 0, 1, 2, 5)) for _ in rows]


def filled(rows, hands, walkers):
    """A yard with so many walkers."""
    yard = Yard(Web(rows), hands)
    for place, many in enumerate(walkers):
        if many:
            yard.put(place, many)
    return yard


class YardCase(Case):
    def check_unchanged(self, yard, kind, ask, *args):
        before = told(yard)
        error = self.check_refused(kind, ask, *args)
        self.assertEqual(told(yard), before)
        return error

    def check_all_back(self, yard):
        """Take back all steps of the yard: they are told from the last one on."""
        steps = []
        while sum(yard.left()) > 0:
            steps.append(yard.back())
        self.check_unchanged(yard, NoStep, yard.back)
        return steps[::-1]


class NewYards(YardCase):
    def test_with_hands(self):
        for rows in webs():
            for hands in all_hands(rows, Chance(3), 3):
                yard = Yard(Web(rows), hands)
                none = [0] * len(rows)
                self.assertEqual(told(yard), (none, hands, none))

    def test_without_hands(self):
        for rows in webs():
            none = [0] * len(rows)
            for yard in (Yard(Web(rows)), Yard(Web(rows), None)):
                self.assertEqual(told(yard), (none, none, none))

    def test_the_answers_are_lists_of_numbers(self):
        yard = filled(SAMPLE, [2, 0, 0, 1], [3, 0, 1, 0])
        yard.settle()
        for answer in told(yard):
            self.assertIs(type(answer), list)
            self.assertEqual([type(item) for item in answer], [int] * 4)

    def test_the_hands_that_were_handed_in_are_changed_behind(self):
        hands = [2, 0, 0, 1]
        yard = Yard(Web(SAMPLE), hands)
        yard.put(0, 2)
        hands[0] = 0
        hands.append(9)
        self.assertEqual(yard.hands(), [2, 0, 0, 1])
        self.assertEqual(yard.step(0), 1)
        hands.clear()
        self.assertEqual(yard.hands(), [0, 0, 0, 1])
        self.assertEqual(yard.back(), (0, 1))
        self.assertEqual(yard.hands(), [2, 0, 0, 1])

    def test_the_hands_that_were_handed_in_are_not_changed(self):
        hands = [2, 0, 0, 1]
        yard = Yard(Web(SAMPLE), hands)
        yard.put(0, 5)
        yard.step(0)
        yard.settle()
        yard.back()
        yard.copied().settle()
        self.assertEqual(hands, [2, 0, 0, 1])

    def test_the_list_of_the_web_is_changed_behind(self):
        rows = deepcopy(SAMPLE)
        yard = Yard(Web(rows))
        rows[0][0] = 0
        rows.clear()
        yard.put(0)
        self.assertEqual(yard.step(0), 1)

    def test_what_was_told_is_changed_by_the_asker(self):
        yard = filled(SAMPLE, [2, 0, 0, 1], [3, 0, 1, 0])
        yard.step(0)
        before = deepcopy(told(yard))
        for answer in told(yard):
            answer[0] = 77
            answer.append(5)
        self.assertEqual(told(yard), before)
        for answer in told(yard):
            answer.clear()
        self.assertEqual(told(yard), before)
        self.assertEqual(yard.step(0), 1)
        self.assertEqual(self.check_all_back(yard), [(0, 1), (0, 1)])

    def test_what_was_told_stays_as_it_was(self):
        yard = filled(SAMPLE, [2, 0, 0, 1], [3, 0, 1, 0])
        first = told(yard)
        kept = deepcopy(first)
        yard.put(0)
        yard.step(0)
        yard.settle()
        yard.back()
        yard.copied().settle()
        self.assertEqual(first, kept)

    def test_two_yards_on_one_web(self):
        web = Web(SAMPLE)
        hands = [1, 0, 0, 2]
        one, other = Yard(web, hands), Yard(web, hands)
        third = Yard(web)
        one.put(0, 3)
        one.step(0)
        one.settle()
        none = [0] * 4
        self.assertEqual(told(other), (none, hands, none))
        self.assertEqual(told(third), (none, none, none))
        self.check_unchanged(other, NoStep, other.back)
        self.assertEqual(web.rows(), SAMPLE)
        before = told(one)
        other.put(1)
        other.settle()
        third.put(3, 9)
        third.step(3)
        self.assertEqual(told(one), before)


class Putting(YardCase):
    def test_one_some_and_a_thousand(self):
        yard = Yard(Web(SAMPLE), [1, 0, 0, 2])
        self.assertIsNone(yard.put(0))
        self.assertEqual(yard.walkers(), [1, 0, 0, 0])
        self.assertIsNone(yard.put(0, 1))
        self.assertIsNone(yard.put(1, 7))
        self.assertIsNone(yard.put(3, 1000))
        self.assertEqual(told(yard), ([0] * 4, [1, 0, 0, 2], [2, 7, 0, 1000]))

    def test_at_a_rest(self):
        yard = Yard(Web(SAMPLE))
        yard.put(2, 4)
        self.assertEqual(told(yard), ([0] * 4, [0] * 4, [0, 0, 4, 0]))

    def test_more_than_a_thousand_come_together(self):
        yard = Yard(Web([[1], []]))
        for _ in range(3):
            yard.put(0, 1000)
        self.assertEqual(yard.walkers(), [3000, 0])
        self.assertEqual(yard.settle(), 3000)
        self.assertEqual(told(yard), ([3000, 0], [0, 0], [0, 3000]))

    def test_each_place_and_the_edges_of_the_number(self):
        for rows in webs():
            yard = Yard(Web(rows))
            for place in range(len(rows)):
                yard.put(place, 1)
                yard.put(place, 999)
                yard.put(place, 1000)
            self.assertEqual(yard.walkers(), [2000] * len(rows))

    def test_behind_steps(self):
        yard = Yard(Web(SAMPLE))
        yard.put(0)
        yard.step(0)
        yard.put(0, 2)
        self.assertEqual(told(yard), ([1, 0, 0, 0], [1, 0, 0, 0], [2, 1, 0, 0]))


class Stepping(YardCase):
    def test_by_hand(self):
        yard = Yard(Web(SAMPLE))
        yard.put(0, 4)
        self.assertEqual([yard.step(0) for _ in range(4)], [1, 2, 1, 1])
        self.assertEqual(told(yard), ([4, 0, 0, 0], [1, 0, 0, 0], [0, 3, 1, 0]))
        self.assertEqual(yard.step(1), 3)
        self.assertEqual([yard.step(3) for _ in range(2)], [3, 0])
        self.assertEqual(told(yard), ([4, 1, 0, 2], [1, 0, 0, 2], [1, 2, 1, 0]))

    def test_it_is_the_hand_at_the_place_that_was_left_that_is_turned(self):
        yard = Yard(Web([[1, 1], [0, 0, 0]]), [1, 1])
        yard.put(0)
        yard.step(0)
        self.assertEqual(yard.hands(), [0, 1])
        yard.step(1)
        self.assertEqual(yard.hands(), [0, 2])

    def test_from_each_hand(self):
        rows = [[1, 2, 3], [2, 0], [3], []]
        for hands in all_hands(rows, Chance(), 100):
            for place in range(3):
                yard = Yard(Web(rows), hands)
                yard.put(place)
                expected = list(hands)
                expected[place] = (hands[place] + 1) % len(rows[place])
                other = yard.step(place)
                self.assertEqual(other, rows[place][hands[place]])
                self.assertEqual(yard.hands(), expected)
                self.assertEqual(yard.left(), [int(at == place) for at in range(4)])
                self.assertEqual(yard.walkers(), [int(at == other) for at in range(4)])

    def test_a_way_to_the_place_itself(self):
        yard = Yard(Web([[0, 0, 1], []]))
        yard.put(0)
        self.assertEqual(yard.step(0), 0)
        self.assertEqual(told(yard), ([1, 0], [1, 0], [1, 0]))
        self.assertEqual([yard.step(0), yard.step(0)], [0, 1])
        self.assertEqual(told(yard), ([3, 0], [0, 0], [0, 1]))

    def test_steps_of_all_kinds_as_the_document_says(self):
        chance = Chance(11)
        for rows, hands, walkers in some_yards():
            yard, model = filled(rows, hands, walkers), Model(rows, hands)
            model.walkers = list(walkers)
            for _ in range(12):
                places = model.can_step()
                for place in range(len(rows)):
                    if place not in places:
                        self.check_unchanged(yard, NoStep, yard.step, place)
                if not places:
                    break
                place = chance.pick(places)
                self.assertEqual(yard.step(place), model.step(place))
                self.assertEqual(told(yard), model.told())

    def test_no_step_where_no_walker_stands(self):
        yard = Yard(Web(SAMPLE))
        for place in range(4):
            self.check_unchanged(yard, NoStep, yard.step, place)
        yard.put(0)
        for place in (1, 2, 3):
            self.check_unchanged(yard, NoStep, yard.step, place)
        yard.step(0)
        self.check_unchanged(yard, NoStep, yard.step, 0)
        self.assertEqual(yard.step(1), 3)

    def test_no_step_at_a_rest(self):
        yard = Yard(Web([[], [0]]))
        self.check_unchanged(yard, NoStep, yard.step, 0)
        yard.put(0, 3)
        self.check_unchanged(yard, NoStep, yard.step, 0)
        yard.put(1)
        yard.step(1)
        self.check_unchanged(yard, NoStep, yard.step, 0)

    def test_a_refused_step_is_not_taken_back(self):
        yard = Yard(Web(SAMPLE))
        yard.put(0)
        yard.step(0)
        self.check_unchanged(yard, NoStep, yard.step, 2)
        self.check_unchanged(yard, NoStep, yard.step, 0)
        self.assertEqual(self.check_all_back(yard), [(0, 1)])


class TakingBack(YardCase):
    def test_by_hand(self):
        yard = Yard(Web(SAMPLE), [2, 0, 0, 0])
        yard.put(0)
        for place in (0, 1, 3, 3, 0):
            yard.step(place)
        self.assertEqual(told(yard), ([2, 1, 0, 2], [1, 0, 0, 2], [0, 1, 0, 0]))
        answers = [
            ((0, 1), ([1, 1, 0, 2], [0, 0, 0, 2], [1, 0, 0, 0])),
            ((3, 0), ([1, 1, 0, 1], [0, 0, 0, 1], [0, 0, 0, 1])),
            ((3, 3), ([1, 1, 0, 0], [0, 0, 0, 0], [0, 0, 0, 1])),
            ((1, 3), ([1, 0, 0, 0], [0, 0, 0, 0], [0, 1, 0, 0])),
            ((0, 1), ([0, 0, 0, 0], [2, 0, 0, 0], [1, 0, 0, 0])),
        ]
        for step, after in answers:
            answer = yard.back()
            self.assertIs(type(answer), tuple)
            self.assertEqual(answer, step)
            self.assertEqual(told(yard), after)
        self.check_unchanged(yard, NoStep, yard.back)
        self.check_unchanged(yard, NoStep, yard.back)

    def test_no_step_to_take_back(self):
        for rows in webs():
            yard = Yard(Web(rows))
            self.check_unchanged(yard, NoStep, yard.back)
            yard.put(0, 3)
            self.check_unchanged(yard, NoStep, yard.back)

    def test_put_walkers_stay(self):
        yard = Yard(Web(SAMPLE))
        yard.put(0, 2)
        yard.step(0)
        yard.put(1, 5)
        yard.put(2)
        yard.step(0)
        yard.put(0)
        self.assertEqual([yard.back(), yard.back()], [(0, 2), (0, 1)])
        self.assertEqual(told(yard), ([0] * 4, [0] * 4, [3, 5, 1, 0]))
        self.check_unchanged(yard, NoStep, yard.back)

    def test_steps_behind_steps_that_were_taken_back(self):
        yard = Yard(Web(SAMPLE))
        yard.put(0, 2)
        yard.put(1)
        yard.step(0)
        yard.step(0)
        yard.back()
        yard.step(1)
        yard.step(3)
        yard.back()
        self.assertEqual(yard.step(0), 2)
        self.assertEqual(self.check_all_back(yard), [(0, 1), (1, 3), (0, 2)])
        self.assertEqual(told(yard), ([0] * 4, [0] * 4, [2, 1, 0, 0]))

    def test_a_refused_back_leaves_the_yard_good(self):
        yard = Yard(Web(SAMPLE))
        self.check_unchanged(yard, NoStep, yard.back)
        yard.put(0)
        self.assertEqual(yard.step(0), 1)
        self.assertEqual(yard.back(), (0, 1))

    def test_steps_of_settle(self):
        for rows, hands, walkers in some_yards(1):
            if lost_place(rows, walkers) is not None:
                continue
            yard, model = filled(rows, hands, walkers), Model(rows, hands)
            model.walkers = list(walkers)
            many = yard.settle()
            after = told(yard)
            steps = self.check_all_back(yard)
            self.assertEqual(len(steps), many)
            self.assertEqual(told(yard), ([0] * len(rows), hands, walkers))
            for place, other in steps:
                self.assertIn(place, model.can_step())
                self.assertEqual(model.step(place), other)
            self.assertEqual(model.told(), after)

    def test_each_state_on_the_way_back_is_one_on_the_way_there(self):
        for hands, walkers in (([0, 0, 0, 0], [9, 2, 1, 4]), ([2, 0, 0, 1], [0, 0, 0, 30])):
            yard = filled(SAMPLE, hands, walkers)
            yard.settle()
            met = []
            steps = []
            while sum(yard.left()) > 0:
                met.append(told(yard))
                steps.append(yard.back())
            model = Model(SAMPLE, hands)
            model.walkers = list(walkers)
            for place, _ in reversed(steps):
                model.step(place)
                self.assertEqual(model.told(), met.pop())

    def test_own_steps_settling_and_putting_in_turns(self):
        yard = filled(SAMPLE, None, [2, 0, 0, 0])
        yard.step(0)
        first = told(yard)
        many = yard.settle()
        yard.put(3, 2)
        yard.put(1)
        self.assertEqual(yard.step(3), 3)
        more = yard.settle()
        for _ in range(more + 1 + many):
            yard.back()
        left, hands, walkers = told(yard)
        self.assertEqual((left, hands), first[:2])
        self.assertEqual(walkers, [1, 2, 0, 2])
        self.assertEqual(yard.back(), (0, 1))
        self.assertEqual(told(yard), ([0] * 4, [0] * 4, [2, 1, 0, 2]))
        self.check_unchanged(yard, NoStep, yard.back)

    def test_some_of_the_steps_of_settle_then_settled_once_more(self):
        for times in range(12):
            yard = filled(SAMPLE, [1, 0, 0, 2], [3, 1, 0, 2])
            many = yard.settle()
            after = told(yard)
            for _ in range(times):
                yard.back()
            self.assertEqual(sum(yard.left()), many - times)
            self.assertEqual(yard.settle(), times)
            self.assertEqual(told(yard), after)
            self.assertEqual(len(self.check_all_back(yard)), many)
            self.assertEqual(told(yard), ([0] * 4, [1, 0, 0, 2], [3, 1, 0, 2]))

    def test_taken_back_in_part_and_stepped_otherwise(self):
        yard = filled(SAMPLE, None, [6, 0, 0, 0])
        yard.settle()
        after = told(yard)
        while yard.walkers()[0] < 3:
            yard.back()
        yard.step(0)
        yard.step(0)
        self.assertEqual([yard.back()[0], yard.back()[0]], [0, 0])
        yard.settle()
        self.assertEqual(told(yard), after)

    def test_back_one_by_one_behind_many_walkers(self):
        yard = filled([[1, 0, 2], [2, 0], []], None, [1000, 1000, 1000])
        many = yard.settle()
        self.assertEqual(len(self.check_all_back(yard)), many)
        self.assertEqual(told(yard), ([0] * 3, [0] * 3, [1000, 1000, 1000]))


class Settling(YardCase):
    def test_by_hand(self):
        yard = Yard(Web([[1, 2], [0, 3], [], []]))
        yard.put(0)
        self.assertEqual(yard.settle(), 3)
        self.assertEqual(told(yard), ([2, 1, 0, 0], [0, 1, 0, 0], [0, 0, 1, 0]))
        yard.put(0, 2)
        self.assertEqual(yard.settle(), 3)
        self.assertEqual(told(yard), ([4, 2, 0, 0], [0, 0, 0, 0], [0, 0, 2, 1]))

    def test_whoever_steps_next_the_same_comes_of_it(self):
        settled = 0
        chance = Chance(5)
        for rows, hands, walkers in some_yards():
            if lost_place(rows, walkers) is not None:
                continue
            settled += 1
            yard = filled(rows, hands, walkers)
            many = yard.settle()
            for pick in (min, max, chance.pick):
                model = Model(rows, hands)
                model.walkers = list(walkers)
                self.assertEqual(model.settle(pick), many)
                self.assertEqual(told(yard), model.told())
        self.assertGreater(settled, 1000)

    def test_step_by_step_partly_so_or_all_at_once(self):
        chance = Chance(9)
        for rows, hands, walkers in some_yards(1):
            if lost_place(rows, walkers) is not None:
                continue
            whole = filled(rows, hands, walkers)
            many = whole.settle()
            for alone in {0, 1, 2, many // 2, many}:
                yard = filled(rows, hands, walkers)
                for _ in range(min(alone, many)):
                    yard.step(chance.pick([
                        place for place, row in enumerate(rows) if row and yard.walkers()[place]
                    ]))
                self.assertEqual(yard.settle(), many - min(alone, many))
                self.assertEqual(told(yard), told(whole))

    def test_settled_once_more(self):
        for rows, hands, walkers in some_yards(1):
            if lost_place(rows, walkers) is None:
                yard = filled(rows, hands, walkers)
                yard.settle()
                before = told(yard)
                self.assertEqual(yard.settle(), 0)
                self.assertEqual(told(yard), before)

    def test_without_walkers(self):
        for rows in webs():
            yard = Yard(Web(rows))
            self.assertEqual(yard.settle(), 0)
            self.assertEqual(told(yard), ([0] * len(rows),) * 3)
            self.check_unchanged(yard, NoStep, yard.back)

    def test_walkers_at_rests_alone(self):
        yard = filled([[], [1], []], None, [4, 0, 1])
        self.assertEqual(yard.settle(), 0)
        self.assertEqual(told(yard), ([0] * 3, [0] * 3, [4, 0, 1]))
        self.check_unchanged(yard, NoStep, yard.back)

    def test_the_steps_are_those_of_this_time_alone(self):
        yard = filled([[1], [2], []], None, [2, 0, 0])
        self.assertEqual(yard.settle(), 4)
        yard.put(1, 3)
        self.assertEqual(yard.settle(), 3)
        yard.put(0)
        yard.step(0)
        self.assertEqual(yard.settle(), 1)
        self.assertEqual(yard.left(), [3, 6, 0])

    def test_long_walks(self):
        yard = Yard(Web(CHAIN))
        yard.put(0)
        self.assertEqual(yard.settle(), 3279)
        self.assertEqual(yard.left(), [3 ** (7 - place) for place in range(7)] + [0])
        self.assertEqual(yard.hands(), [0] * 8)
        yard.put(0, 1000)
        self.assertEqual(yard.settle(), 3279000)
        self.assertEqual(yard.walkers(), [0] * 7 + [1001])
        self.assertEqual(yard.back(), (6, 7))

    def test_groups_in_any_order(self):
        chance = Chance(13)
        for rows, hands, walkers in some_yards(1):
            if lost_place(rows, walkers) is not None:
                continue
            whole = filled(rows, hands, walkers)
            whole.settle()
            yard = Yard(Web(rows), hands)
            singles = [place for place, many in enumerate(walkers) for _ in range(many)]
            for place in chance.shuffled(singles):
                yard.put(place)
                if chance.below(2):
                    yard.settle()
            yard.settle()
            self.assertEqual(told(yard), told(whole))


class EndlessSettling(YardCase):
    def test_as_the_document_says(self):
        refused = 0
        for rows, hands, walkers in some_yards():
            place = lost_place(rows, walkers)
            if place is not None:
                refused += 1
                yard = filled(rows, hands, walkers)
                self.assertEqual(self.check_unchanged(yard, Endless, yard.settle).place, place)
                self.check_unchanged(yard, NoStep, yard.back)
        self.assertGreater(refused, 1000)

    def check_endless(self, place, rows, hands, walkers):
        yard = filled(rows, hands, walkers)
        error = self.check_unchanged(yard, Endless, yard.settle)
        self.assertEqual(error.place, place)
        self.assertIs(type(error.place), int)

    def test_by_hand(self):
        self.check_endless(0, [[0]], [0], [1])
        self.check_endless(0, ring(8), None, [0] * 7 + [1])
        self.check_endless(1, [[1, 2], [1], []], None, [1, 0, 0])
        self.check_endless(2, [[1], [], [3], [2]], None, [1, 0, 0, 5])
        self.check_endless(4, [[], [0, 2], [4, 0], [3], [4]], None, [0, 1, 0, 0, 0])
        self.check_endless(3, [[], [0, 2], [4, 0], [3], [4]], None, [0, 1, 0, 1, 0])

    def test_the_place_of_a_walker_from_which_one_comes_to_a_rest_is_not_told(self):
        self.check_endless(2, [[1, 2], [], [2]], None, [1, 0, 0])

    def test_where_the_hands_would_lead_to_rests(self):
        self.check_endless(1, [[2, 1], [1], []], [0, 0, 0], [1, 0, 0])

    def test_where_no_walker_comes_it_does_not_count(self):
        yard = filled([[1], [], [2], [0, 2]], None, [2, 1, 0, 0])
        self.assertEqual(yard.settle(), 2)

    def test_behind_steps_to_where_it_ends(self):
        yard = filled([[2, 1], [1], []], None, [1, 0, 0])
        self.check_unchanged(yard, Endless, yard.settle)
        self.assertEqual(yard.step(0), 2)
        self.assertEqual(yard.settle(), 0)
        self.assertEqual(yard.back(), (0, 2))
        self.assertEqual(self.check_unchanged(yard, Endless, yard.settle).place, 1)

    def test_the_steps_made_ahead_stay(self):
        yard = filled([[0, 1], [1, 1]], None, [2, 0])
        yard.step(0)
        yard.step(0)
        yard.step(1)
        self.check_unchanged(yard, Endless, yard.settle)
        self.assertEqual(self.check_all_back(yard), [(0, 0), (0, 1), (1, 1)])


class Copying(YardCase):
    def test_a_copy_is_alike(self):
        for rows, hands, walkers in some_yards(1):
            yard = filled(rows, hands, walkers)
            if lost_place(rows, walkers) is None:
                yard.settle()
            twin = yard.copied()
            self.assertIs(type(twin), Yard)
            self.assertIsNot(twin, yard)
            self.assertEqual(told(twin), told(yard))

    def test_a_copy_goes_its_own_way(self):
        yard = filled(SAMPLE, [1, 0, 0, 0], [3, 0, 0, 0])
        yard.step(0)
        before = told(yard)
        twin = yard.copied()
        twin.put(1, 5)
        self.assertEqual(twin.step(0), 1)
        twin.settle()
        self.assertEqual(told(yard), before)
        after = told(twin)
        yard.put(3, 2)
        yard.step(3)
        yard.back()
        yard.back()
        self.assertEqual(told(twin), after)

    def test_the_steps_made_ahead_of_the_copy_are_taken_back_in_itself_alone(self):
        yard = filled(SAMPLE, None, [2, 0, 0, 0])
        yard.step(0)
        yard.step(1)
        before = told(yard)
        twin = yard.copied()
        self.assertEqual(self.check_all_back(twin), [(0, 1), (1, 3)])
        self.assertEqual(told(twin), ([0] * 4, [0] * 4, [2, 0, 0, 0]))
        self.assertEqual(told(yard), before)
        self.assertEqual(self.check_all_back(yard), [(0, 1), (1, 3)])

    def test_the_steps_of_settle_are_taken_back_in_the_copy_alone(self):
        yard = filled(SAMPLE, None, [20, 0, 0, 9])
        many = yard.settle()
        after = told(yard)
        twin = yard.copied()
        for _ in range(many // 2):
            twin.back()
        third = twin.copied()
        self.assertEqual(told(third), told(twin))
        self.assertEqual(len(self.check_all_back(third)), many - many // 2)
        self.assertEqual(sum(twin.left()), many - many // 2)
        self.assertEqual(len(self.check_all_back(twin)), many - many // 2)
        self.assertEqual(told(twin), ([0] * 4, [0] * 4, [20, 0, 0, 9]))
        self.assertEqual(told(yard), after)
        self.assertEqual(len(self.check_all_back(yard)), many)

    def test_a_copy_without_steps(self):
        yard = filled(SAMPLE, None, [1, 0, 0, 0])
        twin = yard.copied()
        yard.step(0)
        self.check_unchanged(twin, NoStep, twin.back)
        twin.step(0)
        twin.step(1)
        self.assertEqual(yard.back(), (0, 1))
        self.check_unchanged(yard, NoStep, yard.back)
        self.assertEqual(self.check_all_back(twin), [(0, 1), (1, 3)])


class Refusals(YardCase):
    def test_bad_hands(self):
        for rows in ([[]], [[0]], [[0, 0, 0]], SAMPLE, ring(8, 2), [[] for _ in range(8)]):
            web = Web(rows)
            good = Yard(web)
            good.put(0)
            for thing in no_hands(rows):
                self.check_unchanged(good, BadHands, Yard, web, thing)
            self.assertEqual(Yard(web, [0] * len(rows)).hands(), [0] * len(rows))

    def test_hands_at_the_edges(self):
        web = Web(SAMPLE)
        self.assertEqual(Yard(web, [2, 0, 0, 2]).hands(), [2, 0, 0, 2])
        for hands in ([3, 0, 0, 0], [0, 1, 0, 0], [0, 0, 1, 0], [0, 0, 0, 3], [-1, 0, 0, 0]):
            self.check_refused(BadHands, Yard, web, hands)

    def test_refused_hands_are_not_changed(self):
        for hands in ([3, 0, 0, 0], [0, 0], [0, 0, 0, None]):
            before = list(hands)
            self.check_refused(BadHands, Yard, Web(SAMPLE), hands)
            self.assertEqual(hands, before)

    def test_bad_places_then_bad_counts(self):
        counts = [0, -1, 1001, 1002, 2 ** 70, -1000] + no_numbers()
        for rows in ([[]], [[0]], SAMPLE, ring(8)):
            yard = Yard(Web(rows))
            yard.put(0, 2)
            for thing in no_places(len(rows)):
                self.check_unchanged(yard, BadPlace, yard.put, thing)
                self.check_unchanged(yard, BadPlace, yard.put, thing, 1)
                self.check_unchanged(yard, BadPlace, yard.put, thing, 0)
                self.check_unchanged(yard, BadPlace, yard.put, thing, Failing())
                self.check_unchanged(yard, BadPlace, yard.step, thing)
            for thing in counts:
                self.check_unchanged(yard, BadCount, yard.put, 0, thing)
                self.check_unchanged(yard, BadCount, yard.put, len(rows) - 1, thing)
            self.check_unchanged(yard, NoStep, yard.back)
            yard.put(0, 3)
            self.assertEqual(yard.walkers()[0], 5)

    def test_good_things_are_taken_behind_refusals(self):
        yard = Yard(Web(SAMPLE))
        yard.put(0)
        yard.step(0)
        self.check_unchanged(yard, BadPlace, yard.put, 4)
        self.check_unchanged(yard, BadCount, yard.put, 0, 1001)
        self.check_unchanged(yard, BadPlace, yard.step, -1)
        self.check_unchanged(yard, NoStep, yard.step, 0)
        self.assertEqual(yard.step(1), 3)
        self.assertEqual(self.check_all_back(yard), [(0, 1), (1, 3)])


class TheInterface(YardCase):
    def test_all_is_defined_in_its_file_and_class(self):
        self.assertEqual(Yard.__module__, "rotorwalk.yards")
        for name in ("hands", "walkers", "left", "put", "step", "back", "settle", "copied"):
            self.assertIn(name, vars(Yard))

    def test_the_names_of_the_arguments(self):
        yard = Yard(web=Web(SAMPLE), hands=[1, 0, 0, 0])
        yard.put(place=0, many=2)
        self.assertEqual(yard.step(place=0), 2)


if __name__ == "__main__":
    unittest.main()
