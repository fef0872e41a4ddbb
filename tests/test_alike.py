"""Points [19] to [22]: alike ones."""

import random
import time
import unittest
from itertools import combinations, permutations

from examples import all_steps, allotments_of, any_objects, crowd, is_firm_by_trial, lots, market_n, small_steps

from swaphouse.alike import Steps, alike_at, count_alike, is_none_firm, none_firm, some_firm
from swaphouse.errors import BadNumber, BadPeople, BadSteps, BadWishes
from swaphouse.markets import Market

TWO_FOR_ONE = Steps(["a", "b", "c"], {"a": [["c"], ["a"]], "b": [["c"], ["b"]], "c": [["a", "b"], ["c"]]})
FOUR = Steps(["a", "b", "c", "d"], {"a": [["b", "d"], ["a"]], "c": [["b", "d"], ["c"]], "b": [["a", "c"], ["b"]],
                                    "d": [["a", "c"], ["d"]]})
FOUR_TOLD = [{"a": "b", "b": "a", "c": "d", "d": "c"}, {"a": "b", "b": "c", "c": "d", "d": "a"},
             {"a": "d", "b": "a", "c": "b", "d": "c"}, {"a": "d", "b": "c", "c": "b", "d": "a"}]


def firm_by_trial(steps):
    """All firm allotments, by the words of [15], ascending by the lists of what people get."""
    return [deal for deal in allotments_of(steps) if is_firm_by_trial(steps, deal)]


def points_by_trial(steps, left):
    return {name: next([thing for thing in step if thing in left] for step in steps.wishes()[name]
                       if any(thing in left for thing in step)) for name in left}


def come_to(points, one):
    found = {one}
    while True:
        more = {thing for name in found for thing in points[name]}
        if more <= found:
            return found
        found |= more


def is_none_firm_by_trial(steps, segments, few):
    """Whether lists of people are such a pair, by the words of [20]."""
    left = set(steps.people())
    points = {}
    for people in segments:
        if not people or not set(people) <= left or people != sorted(people):
            return False
        points = points_by_trial(steps, left)
        if any(come_to(points, one) != set(people) for one in people):
            return False
        left -= set(people)
    if not segments or few != sorted(few) or not set(few) <= set(segments[-1]):
        return False
    return len({thing for name in few for thing in points[name]}) < len(few)


def all_segments(names):
    """All lists of lots of which nobody is in two."""
    found = [[]]
    for lot in lots(names):
        rest = [name for name in names if name not in lot]
        found += [[list(lot)] + behind for behind in all_segments(rest)]
    return found


class TestSteps(unittest.TestCase):
    def test_ordinary(self):
        steps = Steps(people=["b", "a", "c"], wishes={"c": [["b", "a"], ["c"]], "a": (("c", "a"),)})
        self.assertEqual(["b", "a", "c"], steps.people())
        self.assertEqual({"a": [["a", "c"]], "b": [["b"]], "c": [["a", "b"], ["c"]]}, steps.wishes())
        self.assertEqual(["a", "b", "c"], list(steps.wishes()))
        self.assertEqual({}, Steps([], {}).wishes())

    def test_bad_people(self):
        cases = [(None, 0), ("ab", 0), ({}, 0), (["a", "a"], 1), (["a", "b", 3], 2), (["rule"], 0), ([["a"]], 0)]
        for people, index in cases:
            with self.assertRaises(BadPeople) as caught:
                Steps(people, None)
            self.assertEqual(index, caught.exception.index)

    def test_bad_wishes(self):
        wrong = [None, [], {"a": []}, {"a": ["a"]}, {"a": [["b"]]}, {"a": [["a"], ["b"]]}, {"a": [[], ["a"]]},
                 {"a": [["b"], ["b", "a"]]}, {"a": [["a", "a"]]}, {"c": [["c"]]}, {"a": [["c"], ["a"]]}, {1: [["a"]]},
                 {"a": [["b", None], ["a"]]}, {"a": [[["b"]], ["a"]]}, {"a": "a"}, {"a": None}, {"a": [["a"], []]},
                 {"a": {"a": 1}}, {"a": [{"a": 1}]}, {"a": ["ba"]}]
        for thing in wrong:
            with self.assertRaises(BadWishes) as caught:
                Steps(["a", "b"], thing)
            self.assertIs(thing, caught.exception.thing)

    def test_copies(self):
        wishes = {"a": [["b"], ["a"]]}
        people = ["a", "b"]
        steps = Steps(people, wishes)
        people.append("c")
        wishes["a"][0].append("a")
        steps.people().pop()
        steps.wishes()["a"].pop()
        steps.wishes()["a"][0].pop()
        self.assertEqual({"a": [["b"], ["a"]], "b": [["b"]]}, steps.wishes())
        self.assertEqual(Steps(["a", "b"], {"a": [["b"], ["a"]]}), steps)
        self.assertEqual([["b", "a"], ["a"]], wishes["a"])

    def test_equality(self):
        steps = Steps(["a", "b", "c"], {"a": [["c", "b"], ["a"]]})
        self.assertTrue(steps == Steps(["a", "b", "c"], {"b": [["b"]], "a": [["b", "c"], ["a"]]}))
        self.assertFalse(steps == Steps(["b", "a", "c"], {"a": [["b", "c"], ["a"]]}))
        self.assertFalse(steps == Steps(["a", "b", "c"], {"a": [["b"], ["c"], ["a"]]}))
        for thing in any_objects() + [Market(["a", "b", "c"], {"a": ["c", "b"]})]:
            self.assertFalse(steps == thing)
            self.assertTrue(thing != steps)
        self.assertFalse(Steps([], {}) == Market([], {}))
        self.assertFalse(Market([], {}) == Steps([], {}))


class TestAlike(unittest.TestCase):
    def check(self, steps):
        firm = firm_by_trial(steps)
        some = some_firm(steps)
        paper = none_firm(steps)
        self.assertTrue((some is None) != (paper is None))
        self.assertEqual(len(firm), count_alike(steps))
        self.assertEqual(firm, [alike_at(steps, number) for number in range(len(firm))])
        with self.assertRaises(BadNumber):
            alike_at(steps, len(firm))
        if some is None:
            self.assertEqual([], firm)
            self.assertTrue(is_none_firm_by_trial(steps, *paper))
            self.assertTrue(is_none_firm(steps, paper))
            self.assertIsInstance(paper, tuple)
        else:
            self.assertIn(some, firm)
            self.assertEqual(sorted(some), list(some))

    def test_small_ones(self):
        for steps in small_steps([]) + small_steps(["a"]) + small_steps(["b", "a"]) + small_steps(["b", "a", "c"]):
            self.check(steps)

    def test_greater_ones(self):
        chance = random.Random(8)
        for many in (4, 5):
            names = ["a", "b", "c", "d", "e"][:many]
            rows = {name: all_steps(name, [other for other in names if other != name]) for name in names}
            for _ in range(60):
                self.check(Steps(names, {name: chance.choice(rows[name]) for name in names}))

    def test_segments_that_stand_among_one_another(self):
        for one, other in (("ac", "bd"), ("ad", "bc")):
            self.check(Steps(list("dbca"), {name: [sorted(lot)] for lot in (one, other) for name in lot}))

    def test_judged(self):
        chance = random.Random(9)
        for names in (["a", "b"], ["a", "b", "c"]):
            all_lots = [list(row) for many in range(4) for row in combinations(names, many)]
            for steps in chance.sample(small_steps(names), 9 if len(names) == 2 else 60):
                for segments in all_segments(names):
                    for few in all_lots:
                        right = is_none_firm_by_trial(steps, segments, few)
                        self.assertEqual(right, is_none_firm(steps, (segments, few)))
                        self.assertEqual(right, is_none_firm(steps, [tuple(segments), tuple(few)]))
                        self.assertFalse(right and some_firm(steps))

    def test_judged_in_whatever_order(self):
        for few in permutations(["a", "b", "c"]):
            self.assertFalse(is_none_firm(TWO_FOR_ONE, ([["a", "b", "c"]], list(few))))
        self.assertFalse(is_none_firm(TWO_FOR_ONE, ([["a", "c", "b"]], ["a", "b"])))
        self.assertFalse(is_none_firm(TWO_FOR_ONE, ([["a", "b", "c"]], ["b", "a"])))
        self.assertFalse(is_none_firm(TWO_FOR_ONE, ([["a", "b", "c"]], ["a", "b"], [])))
        self.assertFalse(is_none_firm(TWO_FOR_ONE, ([["a", "b", "c"], ["a"]], ["a", "b"])))
        for segments in ({}, None, "abc", 3, [], [[]], [["a", "b", "c"], []], [None], ["abc"], [["a", "b"]], [["a", None]]):
            self.assertIs(False, is_none_firm(TWO_FOR_ONE, (segments, ["a", "b"])))
        for few in ([], None, {}, "ab", [["a", "b"]], ["a", "zed"], ["a", "a", "b"]):
            self.assertIs(False, is_none_firm(TWO_FOR_ONE, ([["a", "b", "c"]], few)))
        self.assertTrue(is_none_firm(steps=TWO_FOR_ONE, thing=[(("a", "b", "c"),), ("a", "b")]))

    def test_examples(self):
        self.assertEqual(([["a", "b", "c"]], ["a", "b"]), none_firm(steps=TWO_FOR_ONE))
        self.assertIsNone(some_firm(steps=TWO_FOR_ONE))
        self.assertEqual(0, count_alike(steps=TWO_FOR_ONE))
        self.assertEqual(4, count_alike(FOUR))
        self.assertIsNone(none_firm(FOUR))
        self.assertEqual(FOUR_TOLD, [alike_at(steps=FOUR, number=number) for number in range(4)])
        self.assertIn(some_firm(FOUR), FOUR_TOLD)

    def test_any_object(self):
        for thing in any_objects():
            for steps in (TWO_FOR_ONE, FOUR, Steps([], {}), Steps(["a"], {})):
                self.assertIs(False, is_none_firm(steps, thing))

    def test_bad_steps(self):
        asked = [some_firm, none_firm, count_alike, lambda thing: is_none_firm(thing, None),
                 lambda thing: alike_at(thing, None)]
        for thing in any_objects() + [market_n()]:
            if not isinstance(thing, Steps):
                for one in asked:
                    with self.assertRaises(BadSteps) as caught:
                        one(thing)
                    self.assertIs(thing, caught.exception.thing)

    def test_bad_number(self):
        for thing in any_objects() + [4, 10 ** 9]:
            if thing not in (0, 1, 2, 3) or isinstance(thing, bool):
                with self.assertRaises(BadNumber) as caught:
                    alike_at(FOUR, thing)
                self.assertIs(thing, caught.exception.thing)
        with self.assertRaises(BadNumber):
            alike_at(TWO_FOR_ONE, 0)

    def test_sixty_promptly(self):
        began = time.time()
        names = crowd(60)
        lots_of_ten = [names[at::6] for at in range(6)]
        wishes = {name: [list(lot)] for lot in lots_of_ten for name in lot}
        steps = Steps(names, wishes)
        many = 3628800 ** 6
        self.assertEqual(many, count_alike(steps))
        self.assertEqual({name: name for name in names}, alike_at(steps, 0))
        last = {name: lot[9 - lot.index(name)] for lot in lots_of_ten for name in lot}
        self.assertEqual(dict(sorted(last.items())), alike_at(steps, many - 1))
        with self.assertRaises(BadNumber):
            alike_at(steps, many)
        told = [[alike_at(steps, many // 7 * at + extra)[name] for name in names] for at in range(5) for extra in (0, 1)]
        self.assertEqual(sorted(told), told)
        self.assertEqual(names, sorted(some_firm(Steps(names, {name: [list(names)] for name in names})).values()))
        one_behind_another = Steps(names, {name: [names[:at], [name]] for at, name in enumerate(names) if at})
        self.assertEqual({name: name for name in names}, some_firm(one_behind_another))
        jealous = Steps(names, {name: [[names[0]], [name]] if at else [names[1:], [name]]
                                for at, name in enumerate(names)})
        self.assertTrue(is_none_firm(jealous, none_firm(jealous)))
        self.assertTrue(is_none_firm(jealous, ([names], names[1:])))
        self.assertLess(time.time() - began, 20)

    def test_told_anew(self):
        some_firm(FOUR).clear()
        alike_at(FOUR, 0).clear()
        none_firm(TWO_FOR_ONE)[0][0].append("x")
        none_firm(TWO_FOR_ONE)[1].append("x")
        self.assertEqual(FOUR_TOLD[0], alike_at(FOUR, 0))
        self.assertEqual(([["a", "b", "c"]], ["a", "b"]), none_firm(TWO_FOR_ONE))
        self.assertEqual(some_firm(FOUR), some_firm(Steps(("a", "b", "c", "d"), FOUR.wishes())))


if __name__ == "__main__":
    unittest.main()
