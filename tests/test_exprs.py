"""Points 2, 6 and 7: expressions and conditions."""

import copy
import itertools
import unittest

from callmill.exprs import holds, names_in, worth

BOXES = [("a", 2), ("bell", 5), ("count", 4)]
VALUES = (1, 4, 2)
# Names that are also the first words of expressions and conditions.
KIND_NAMES = ("number", "box", "plus", "less", "same", "under", "both")


def number(n):
    return ("number", n)


def box(name):
    return ("box", name)


def nest_left(kind, parts):
    """((p0 . p1) . p2) and so on."""
    whole = parts[0]
    for part in parts[1:]:
        whole = (kind, whole, part)
    return whole


def nest_right(kind, parts):
    """(p0 . (p1 . (p2 ..."""
    whole = parts[-1]
    for part in reversed(parts[:-1]):
        whole = (kind, part, whole)
    return whole


YES = ("same", number(3), number(3))
NO = ("same", number(3), number(4))


class Worths(unittest.TestCase):
    def told(self, expression, answer, boxes=BOXES, values=VALUES):
        with self.subTest(expression=expression, values=values):
            got = worth(expression, boxes, values)
            self.assertEqual(got, answer)
            self.assertIs(type(got), int)

    def test_figures(self):
        for n in range(10):
            self.told(number(n), n)
            self.told(number(n), n, [], ())

    def test_each_of_three_boxes(self):
        self.told(box("a"), 1)
        self.told(box("bell"), 4)
        self.told(box("count"), 2)

    def test_each_value_a_box_may_hold(self):
        for size in range(2, 6):
            for value in range(size):
                self.told(box("x"), value, [("x", size)], (value,))
                self.told(box("x"), value, [("y", 5), ("x", size)], (0, value))

    def test_boxes_are_found_by_name_whatever_their_order(self):
        for order in itertools.permutations(range(3)):
            boxes = [BOXES[place] for place in order]
            values = tuple([VALUES[place] for place in order])
            for name, value in (("a", 1), ("bell", 4), ("count", 2)):
                self.told(box(name), value, boxes, values)

    def test_names_whose_beginnings_are_alike(self):
        boxes = [("ab", 5), ("a", 5), ("abc", 5)]
        self.told(box("a"), 2, boxes, (1, 2, 3))
        self.told(box("ab"), 1, boxes, (1, 2, 3))
        self.told(box("abc"), 3, boxes, (1, 2, 3))

    def test_boxes_named_like_kinds(self):
        for name in KIND_NAMES:
            boxes = [("z", 2), (name, 5)]
            self.told(box(name), 3, boxes, (0, 3))
            self.told(("less", box(name), box("z")), 2, boxes, (1, 3))

    def test_plus_and_less(self):
        for one in range(10):
            for other in range(10):
                self.told(("plus", number(one), number(other)), one + other)
                self.told(("less", number(one), number(other)), one - other)

    def test_plus_and_less_of_boxes(self):
        self.told(("plus", box("bell"), box("count")), 6)
        self.told(("less", box("bell"), box("count")), 2)
        self.told(("less", box("count"), box("bell")), -2)
        self.told(("plus", box("bell"), box("bell")), 8)
        self.told(("less", box("bell"), box("bell")), 0)

    def test_worths_are_not_held_below_a_size_nor_above_0(self):
        self.told(("plus", box("a"), number(9)), 10)
        self.told(("less", number(0), number(9)), -9)
        self.told(("less", box("a"), number(2)), -1)
        self.told(nest_left("less", [number(0)] + [number(9)] * 6), -54)
        self.told(nest_left("plus", [number(9)] * 7), 63)

    def test_six_within_one_another_at_the_left(self):
        parts = [number(1), box("bell"), number(3), box("a"), number(7), box("count"), number(9)]
        self.told(nest_left("plus", parts), 27)
        self.told(nest_left("less", parts), 1 - 4 - 3 - 1 - 7 - 2 - 9)

    def test_six_within_one_another_at_the_right(self):
        parts = [number(1), box("bell"), number(3), box("a"), number(7), box("count"), number(9)]
        self.told(nest_right("plus", parts), 27)
        self.told(nest_right("less", parts), 1 - (4 - (3 - (1 - (7 - (2 - 9))))))

    def test_plus_and_less_within_one_another(self):
        inner = ("less", number(2), number(5))
        self.told(("plus", number(1), inner), -2)
        self.told(("plus", inner, number(1)), -2)
        self.told(("less", number(1), inner), 4)
        self.told(("less", inner, number(1)), -4)
        self.told(("less", ("plus", number(9), number(9)), number(9)), 9)

    def test_nothing_is_changed_or_kept(self):
        boxes = [("a", 5), ("b", 5)]
        expression = ("less", box("a"), box("b"))
        self.assertEqual(worth(expression, boxes, (1, 3)), -2)
        self.assertEqual(boxes, [("a", 5), ("b", 5)])
        self.assertEqual(worth(expression, boxes, (4, 1)), 3)
        boxes.reverse()
        self.assertEqual(worth(expression, boxes, (4, 1)), -3)
        boxes[0] = ("c", 5)
        boxes.append(("b", 5))
        self.assertEqual(worth(expression, boxes, (4, 1, 0)), 1)


class Conditions(unittest.TestCase):
    def told(self, condition, answer, boxes=BOXES, values=VALUES):
        with self.subTest(condition=condition, values=values):
            self.assertIs(holds(condition, boxes, values), answer)

    def test_same_and_under_of_figures(self):
        for one in range(10):
            for other in range(10):
                self.told(("same", number(one), number(other)), one == other)
                self.told(("under", number(one), number(other)), one < other)

    def test_under_at_the_same_worth(self):
        self.told(("under", number(0), number(0)), False)
        self.told(("under", box("bell"), number(4)), False)
        self.told(("under", ("plus", number(1), number(3)), box("bell")), False)

    def test_worths_not_forms_are_set_side_by_side(self):
        self.told(("same", ("plus", number(1), number(1)), box("count")), True)
        self.told(("same", ("plus", number(1), number(2)), ("plus", number(2), number(1))), True)
        self.told(("same", box("a"), box("bell")), False)

    def test_worths_below_0(self):
        below = ("less", number(0), number(1))
        self.told(("under", below, number(0)), True)
        self.told(("under", number(0), below), False)
        self.told(("same", below, ("less", number(3), number(4))), True)
        self.told(("same", below, number(1)), False)
        self.told(("under", ("less", number(0), number(9)), ("less", number(0), number(8))), True)
        self.told(("under", ("less", number(0), number(2)), number(1)), True)

    def test_boxes(self):
        for one, other in itertools.product(range(5), repeat=2):
            boxes = [("x", 5), ("y", 5)]
            self.told(("same", box("x"), box("y")), one == other, boxes, (one, other))
            self.told(("under", box("x"), box("y")), one < other, boxes, (one, other))
            self.told(("under", box("y"), box("x")), other < one, boxes, (one, other))

    def test_boxes_named_like_kinds(self):
        for name in KIND_NAMES:
            self.told(("same", box(name), number(3)), True, [(name, 5)], (3,))
            self.told(("under", box(name), number(3)), False, [(name, 5)], (3,))

    def test_not(self):
        self.told(("not", YES), False)
        self.told(("not", NO), True)
        self.told(("not", ("not", YES)), True)
        self.told(("not", ("under", number(3), number(3))), True)
        self.told(("not", ("both", YES, NO)), True)

    def test_both_in_all_four_ways(self):
        self.told(("both", YES, YES), True)
        self.told(("both", YES, NO), False)
        self.told(("both", NO, YES), False)
        self.told(("both", NO, NO), False)

    def test_six_nots_within_one_another(self):
        condition = YES
        for depth in range(1, 7):
            condition = ("not", condition)
            self.told(condition, depth % 2 == 0)

    def test_six_boths_within_one_another(self):
        for nest in (nest_left, nest_right):
            self.told(nest("both", [YES] * 7), True)
            self.told(nest("both", [("not", NO)] * 7), True)
            for place in range(7):
                parts = [YES] * 7
                parts[place] = NO
                self.told(nest("both", parts), False)

    def test_not_and_both_within_one_another(self):
        for one, other, third in itertools.product((YES, NO), repeat=3):
            a, b, c = one == YES, other == YES, third == YES
            self.told(("not", ("both", ("not", one), ("not", other))), a or b)
            self.told(("both", ("not", ("both", one, other)), third), (not (a and b)) and c)
            self.told(("both", one, ("not", ("both", other, third))), a and not (b and c))

    def test_without_boxes(self):
        self.told(YES, True, [], ())
        self.told(NO, False, [], ())

    def test_nothing_is_changed_or_kept(self):
        boxes = [("a", 5), ("b", 5)]
        condition = ("both", ("under", box("a"), box("b")), ("not", ("same", box("a"), number(0))))
        self.assertIs(holds(condition, boxes, (1, 3)), True)
        self.assertEqual(boxes, [("a", 5), ("b", 5)])
        self.assertIs(holds(condition, boxes, (0, 3)), False)
        boxes.reverse()
        self.assertIs(holds(condition, boxes, (1, 3)), False)


class Names(unittest.TestCase):
    def told(self, thing, answer):
        with self.subTest(thing=thing):
            got = names_in(thing)
            self.assertEqual(got, answer)
            self.assertIs(type(got), list)

    def test_none_at_all(self):
        self.told(number(4), [])
        self.told(("plus", number(4), ("less", number(0), number(9))), [])
        self.told(YES, [])
        self.told(("not", ("both", YES, NO)), [])

    def test_one(self):
        self.told(box("bell"), ["bell"])
        self.told(("plus", box("bell"), number(1)), ["bell"])
        self.told(("less", number(1), box("bell")), ["bell"])
        self.told(("not", ("same", number(1), box("bell"))), ["bell"])

    def test_the_order_written(self):
        for kind in ("plus", "less", "same", "under"):
            self.told((kind, box("b"), box("a")), ["b", "a"])
            self.told((kind, box("a"), box("b")), ["a", "b"])
            self.told((kind, ("plus", box("d"), box("b")), ("less", box("c"), box("a"))), ["d", "b", "c", "a"])
        conditions = ("same", box("d"), box("c")), ("under", box("a"), box("b"))
        self.told(("both", conditions[0], conditions[1]), ["d", "c", "a", "b"])
        self.told(("both", ("not", conditions[1]), conditions[0]), ["a", "b", "d", "c"])

    def test_as_often_as_it_stands(self):
        self.told(("plus", box("a"), box("a")), ["a", "a"])
        self.told(("plus", ("less", box("b"), box("a")), ("plus", box("b"), box("b"))), ["b", "a", "b", "b"])
        same = ("same", box("b"), box("a"))
        self.told(("both", same, ("both", same, ("not", same))), ["b", "a", "b", "a", "b", "a"])

    def test_six_within_one_another(self):
        names = ["g", "b", "f", "a", "e", "b", "d"]
        parts = [box(name) for name in names]
        for kind in ("plus", "less"):
            self.told(nest_left(kind, parts), names)
            self.told(nest_right(kind, parts), names)
        conditions = [("same", box(name), number(1)) for name in names]
        self.told(nest_left("both", conditions), names)
        self.told(nest_right("both", conditions), names)
        condition = ("under", box("z"), box("y"))
        for depth in range(6):
            condition = ("not", condition)
        self.told(condition, ["z", "y"])

    def test_names_like_kinds(self):
        for name in KIND_NAMES:
            self.told(box(name), [name])
            self.told(("plus", box(name), box("a")), [name, "a"])
            self.told(("under", number(0), box(name)), [name])
            self.told(("not", ("same", box("a"), box(name))), ["a", name])
        self.told(("plus", box("plus"), ("less", box("box"), box("number"))), ["plus", "box", "number"])

    def test_a_told_list_is_the_askers_own(self):
        for thing, answer in (
            (number(1), []),
            (box("a"), ["a"]),
            (("plus", number(1), number(2)), []),
            (("less", box("a"), box("b")), ["a", "b"]),
            (("same", box("a"), number(1)), ["a"]),
            (("not", ("under", number(1), box("a"))), ["a"]),
            (("both", ("same", box("a"), box("a")), YES), ["a", "a"]),
        ):
            with self.subTest(thing=thing):
                first = names_in(thing)
                second = names_in(thing)
                first.append("more")
                first.reverse()
                self.assertEqual(second, answer)
                self.assertEqual(names_in(thing), answer)
                second.clear()
                self.assertEqual(names_in(thing), answer)
                self.assertEqual(len(first), len(answer) + 1)

    def test_the_thing_stays_as_it_was(self):
        thing = ("both", ("same", box("a"), box("b")), ("not", ("under", box("a"), number(1))))
        before = copy.deepcopy(thing)
        names_in(thing).append("c")
        self.assertEqual(thing, before)


if __name__ == "__main__":
    unittest.main()
