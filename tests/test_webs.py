"""Promises [1], [2], [3] and [7] (when a web is even), and rotorwalk/webs.py."""

import unittest
from copy import deepcopy

from examples import Failing, closure, even, no_numbers, no_places, ring, webs
from rotorwalk import webs as module
from rotorwalk.errors import BadPlace, BadWeb, WalkError
from rotorwalk.webs import Web, is_web

SAMPLE = [[1, 2, 1], [3], [], [0, 3, 4], [4], [0, 1]]


def no_webs():
    """Things of all kinds that tell no web."""
    others = [thing for thing in no_numbers() if type(thing) is not list]
    found = others + [0, 1, -1, 8, 2 ** 70, [], [0], [[], 0], [0, []], ([],), ([0],), "[[]]"]
    found += [[[] for _ in range(many)] for many in (9, 10, 100)]
    found += [ring(9), [[0, 0, 0, 0]], [[], [1, 0, 1, 0]], [[0] * 100], Web([[0]])]
    found += [{0: []}, {0: [0]}, [{}], [()], [(0,)], [""], [b""], [set()], [{0}], [range(1)]]
    found += [[[0], thing] for thing in others] + [[thing, [0]] for thing in others]
    for many in (1, 2, 8):
        for thing in no_places(many):
            for at in (0, many - 1):
                rows = ring(many)
                rows[at] = [0, thing]
                found.append(rows)
                rows = ring(many)
                rows[at] = [thing, 0, 0]
                found.append(rows)
    own = []
    own.append(own)
    return found + [own, [own]]


class WhatIsAWeb(unittest.TestCase):
    def test_lists_that_tell_webs(self):
        for rows in webs():
            self.assertIs(is_web(rows), True, rows)

    def test_the_edges(self):
        for rows in (
            [[]], [[0]], [[0, 0, 0]], [[] for _ in range(8)],
            [[7, 7, 7] for _ in range(8)], [[0, 7, place] for place in range(8)],
        ):
            self.assertIs(is_web(rows), True, rows)
            self.assertEqual(Web(rows).rows(), rows)

    def test_rows_that_are_one_and_the_same_list(self):
        row = [0, 1]
        self.assertIs(is_web([row, row]), True)
        self.assertEqual(Web([row, row]).rows(), [[0, 1], [0, 1]])

    def test_what_is_no_web(self):
        for thing in no_webs():
            self.assertIs(is_web(thing), False)

    def test_what_is_no_web_is_refused(self):
        for thing in no_webs():
            with self.assertRaises(WalkError) as caught:
                Web(thing)
            self.assertIs(type(caught.exception), BadWeb)

    def test_what_is_asked_about_or_refused_is_not_changed(self):
        for rows in ([[0], [1, 0]], [[0], [2]], [[0], [True]], [[0] * 4], [], [[]] * 9):
            before = deepcopy(rows)
            is_web(rows)
            try:
                Web(rows)
            except BadWeb:
                pass
            self.assertEqual(repr(rows), repr(before))


class WhatAWebTells(unittest.TestCase):
    def test_rows_and_many(self):
        for rows in webs():
            web = Web(rows)
            self.assertEqual(web.rows(), rows)
            self.assertIs(type(web.rows()), list)
            self.assertEqual([type(row) for row in web.rows()], [list] * len(rows))
            self.assertEqual(web.many(), len(rows))

    def test_rests(self):
        for rows in webs():
            web = Web(rows)
            rests = [place for place, row in enumerate(rows) if row == []]
            self.assertIs(type(web.rests()), list)
            self.assertEqual(web.rests(), rests)
            for place in range(len(rows)):
                self.assertIs(web.is_rest(place), place in rests)

    def test_rests_by_hand(self):
        self.assertEqual(Web(SAMPLE).rests(), [2])
        self.assertEqual(Web([[], [0], [], [], [4]]).rests(), [0, 2, 3])
        self.assertEqual(Web([[] for _ in range(8)]).rests(), [0, 1, 2, 3, 4, 5, 6, 7])
        self.assertEqual(Web([[0]]).rests(), [])

    def test_comes(self):
        for rows in webs():
            web = Web(rows)
            leads = closure(rows)
            for place in range(len(rows)):
                for other in range(len(rows)):
                    self.assertIs(
                        web.comes(place, other), leads[place][other], (rows, place, other)
                    )

    def test_comes_by_hand(self):
        web = Web(SAMPLE)
        told = [[other for other in range(6) if web.comes(place, other)] for place in range(6)]
        self.assertEqual(told, [
            [0, 1, 2, 3, 4], [0, 1, 2, 3, 4], [2], [0, 1, 2, 3, 4], [4], [0, 1, 2, 3, 4, 5],
        ])

    def test_one_comes_from_each_place_to_itself_from_a_rest_too(self):
        web = Web([[], [2], [0], [3]])
        for place in range(4):
            self.assertIs(web.comes(place, place), True)

    def test_one_comes_along_many_ways(self):
        web = Web([[place + 1] for place in range(7)] + [[]])
        for place in range(8):
            for other in range(8):
                self.assertIs(web.comes(place, other), place <= other)

    def test_the_same_is_told_again(self):
        web = Web(SAMPLE)
        first = told(web)
        self.assertEqual(told(web), first)


class EvenWebs(unittest.TestCase):
    def check(self, expected, rows):
        self.assertIs(Web(rows).is_even(), expected, rows)

    def test_as_the_document_says(self):
        evens = 0
        for rows in webs():
            self.check(even(rows), rows)
            evens += even(rows)
        self.assertGreater(evens, 20)

    def test_rings(self):
        for many in range(1, 9):
            for ways in (1, 2, 3):
                self.check(True, ring(many, ways))

    def test_rings_with_more_ways_in_and_out(self):
        for many in range(2, 9):
            for place in range(many):
                rows = ring(many)
                rows[place].append(place)
                self.check(True, rows)
                rows[place].insert(0, place)
                self.check(True, rows)
            for other in range(1, many):
                rows = ring(many)
                rows[0].append(other)
                rows[other].append(0)
                self.check(True, rows)
            both_ways = [[(at + 1) % many, (at - 1) % many] for at in range(many)]
            self.check(True, both_ways)

    def test_two_rings_that_share_a_place(self):
        self.check(True, [[1, 2], [0], [3], [0]])

    def test_a_ring_in_another_order(self):
        self.check(True, [[3], [4], [1], [2], [0]])

    def test_with_a_rest(self):
        self.check(False, [[]])
        self.check(False, [[] for _ in range(8)])
        self.check(False, [[1], []])
        self.check(False, [[1], [0], []])
        self.check(False, [[], [2], [1]])

    def test_more_ways_in_than_out(self):
        self.check(False, [[1], [0, 0]])
        self.check(False, [[1, 1], [0]])
        self.check(False, [[1, 0], [0, 0]])
        self.check(False, [[1, 2], [2], [0]])
        for many in range(2, 9):
            rows = ring(many)
            rows[many - 1].append(many - 2)
            self.check(False, rows)

    def test_rings_beside_one_another(self):
        self.check(False, [[0], [1]])
        self.check(False, [[1], [0], [3], [2]])
        self.check(False, [[1], [2], [0], [4], [5], [3], [7], [6]])
        self.check(False, [[0, 0, 0], [2], [1]])

    def test_one_cannot_come_back(self):
        self.check(False, [[0, 1], [1]])
        self.check(False, [[0], [0, 1]])


def told(web):
    """All that a web tells."""
    places = range(web.many())
    return (
        web.rows(), web.many(), web.rests(), [web.is_rest(place) for place in places],
        [[web.comes(place, other) for other in places] for place in places], web.is_even(),
    )


class WhatIsHandedInAndTold(unittest.TestCase):
    def test_what_was_handed_in_is_not_changed(self):
        for rows in (SAMPLE, ring(8, 3), [[]]):
            handed = deepcopy(rows)
            told(Web(handed))
            self.assertEqual(handed, rows)

    def test_what_was_handed_in_is_changed_behind(self):
        for rows in (SAMPLE, ring(4), [[1], [0]]):
            handed = deepcopy(rows)
            web = Web(handed)
            before = told(web)
            handed[1].append(1)
            self.assertEqual(told(web), before)
            handed[0][0] = 0
            self.assertEqual(told(web), before)
            handed[0].clear()
            self.assertEqual(told(web), before)
            handed[1] = []
            handed.append([0])
            self.assertEqual(told(web), before)
            handed.clear()
            self.assertEqual(told(web), before)

    def test_what_was_told_is_changed_by_the_asker(self):
        for rows in (SAMPLE, ring(4), [[1], []]):
            web = Web(rows)
            before = told(web)
            answer = web.rows()
            answer[0].append(0)
            answer[1].clear()
            self.assertEqual(told(web), before)
            answer.clear()
            web.rests().append(0)
            web.rests().clear()
            self.assertEqual(told(web), before)

    def test_each_answer_is_a_list_of_its_own(self):
        web = Web(SAMPLE)
        one, other = web.rows(), web.rows()
        self.assertIsNot(one, other)
        for at in range(web.many()):
            self.assertIsNot(one[at], other[at])
        self.assertIsNot(web.rests(), web.rests())

    def test_what_was_told_stays_as_it_was(self):
        web = Web(SAMPLE)
        rows, rests = web.rows(), web.rests()
        web.rows()[0].clear()
        told(web)
        self.assertEqual(rows, SAMPLE)
        self.assertEqual(rests, [2])

    def test_two_webs_of_one_list_are_two(self):
        handed = [[1], [0]]
        one = Web(handed)
        handed[1] = []
        other = Web(handed)
        self.assertEqual((one.rests(), other.rests()), ([], [1]))


class WhatIsNoPlace(unittest.TestCase):
    def check(self, web, ask, *places):
        before = told(web)
        with self.assertRaises(WalkError) as caught:
            ask(*places)
        self.assertIs(type(caught.exception), BadPlace)
        self.assertEqual(told(web), before)

    def test_is_rest(self):
        for rows in ([[]], [[0]], SAMPLE, ring(8)):
            web = Web(rows)
            for thing in no_places(len(rows)):
                self.check(web, web.is_rest, thing)

    def test_comes(self):
        for rows in ([[]], [[0]], SAMPLE, ring(8)):
            web = Web(rows)
            for thing in no_places(len(rows)):
                self.check(web, web.comes, thing, 0)
                self.check(web, web.comes, 0, thing)
                self.check(web, web.comes, thing, thing)
                self.check(web, web.comes, thing, Failing())

    def test_a_refused_web_leaves_the_web_as_it_was(self):
        web = Web(SAMPLE)
        before = told(web)
        for thing in no_webs():
            self.assertRaises(BadWeb, Web, thing)
        self.assertEqual(told(web), before)

    def test_a_refused_thing_is_not_changed(self):
        web = Web(SAMPLE)
        for thing in ([0], [[0], [1]], {0: [1]}):
            before = deepcopy(thing)
            self.check(web, web.is_rest, thing)
            self.check(web, web.comes, thing, thing)
            self.assertEqual(thing, before)


class TheInterface(unittest.TestCase):
    def test_all_is_defined_in_its_file_and_class(self):
        self.assertEqual(is_web.__module__, "rotorwalk.webs")
        self.assertEqual(Web.__module__, "rotorwalk.webs")
        for name in ("rows", "many", "rests", "is_rest", "comes", "is_even"):
            self.assertIn(name, vars(Web))

    def test_the_names_of_the_arguments(self):
        self.assertIs(module.is_web(thing=[[]]), True)
        web = module.Web(rows=[[1], []])
        self.assertIs(web.is_rest(place=1), True)
        self.assertIs(web.comes(place=0, other=1), True)
        self.assertIs(web.comes(other=0, place=1), False)


if __name__ == "__main__":
    unittest.main()
