"""Names and numbers [0.4], values [1.1], and that asking changes nothing [0.1]."""
import copy
import string
import unittest

from samples import ONE, OTHER_KINDS, TWO_VALUES, LikeAll, LikeNothing
from retrace.values import is_name, is_number, is_value

BOXES = ["a", "b", "count"]
LISTS = ["l", "heap"]


def nested(depth):
    """A value just so deep."""
    made = ("box", "a")
    for _ in range(depth - 1):
        made = ("not", made)
    return made


def forms():
    """One of each form, each a right value, none deeper than two."""
    made = [("number", 7), ("box", "a"), ("size", "l"), ("not", ("box", "b")), ("item", "heap", ("number", 0))]
    return made + [(word, ("number", 2), ("box", "count")) for word in TWO_VALUES]


def around(value):
    """The value in each place where a value may stand, one deeper."""
    made = [("not", value), ("item", "l", value)]
    for word in TWO_VALUES:
        made.append((word, value, ONE))
        made.append((word, ONE, value))
    return made


def shown(thing):
    try:
        return repr(thing)[:200]
    except RecursionError:
        return "a thing too deep to be written out"


class Asking(unittest.TestCase):
    def told(self, expected, thing, boxes, lists):
        found = is_value(thing, boxes, lists)
        if found is not expected:
            self.fail(f"{found!r} is told of {shown(thing)}")

    def is_true(self, thing, boxes=BOXES, lists=LISTS):
        self.told(True, thing, boxes, lists)

    def is_false(self, thing, boxes=BOXES, lists=LISTS):
        self.told(False, thing, boxes, lists)

    def nowhere(self, thing):
        """No value by itself, nor anywhere within a value that would stand otherwise."""
        self.is_false(thing)
        for first in around(thing):
            self.is_false(first)
            for second in around(first):
                self.is_false(second)


class Names(unittest.TestCase):
    def test_ordinary_ones(self):
        for name in ("a", "z", "x", "ab", "box", "list", "zebra", "abcdef", "zzzzzz", "aaaaaa"):
            self.assertIs(is_name(name), True, name)

    def test_every_small_letter(self):
        for letter in string.ascii_lowercase:
            self.assertIs(is_name(letter), True, letter)

    def test_how_many_letters(self):
        told = [is_name("a" * count) for count in range(9)]
        self.assertEqual(told, [False] + [True] * 6 + [False, False])
        self.assertIs(is_name("abcdefg"), False)
        self.assertIs(is_name("a" * 100000), False)

    def test_other_signs(self):
        for code in range(0, 400):
            sign = chr(code)
            if sign not in string.ascii_lowercase:
                for text in (sign, sign + "b", "a" + sign, "a" + sign + "b"):
                    self.assertIs(is_name(text), False, ascii(text))

    def test_letters_of_other_scripts(self):
        for text in ("\u0430", "\u03b1", "\uff41", "\u00e9", "a\u0301", "\u017f", "\u00df", "\U0001d41a"):
            self.assertIs(is_name(text), False, ascii(text))

    def test_great_letters_figures_blanks(self):
        for text in ("A", "Ab", "aB", "ABCDEF", "a1", "1a", "1", " ", " a", "a ", "a b", "a\n", "\na", "a_b", "_", "a-b",
                     "a@1", "`", "{"):
            self.assertIs(is_name(text), False, ascii(text))

    def test_other_kinds(self):
        for thing in OTHER_KINDS + (0, 1, -1, ["a", "b"], ("a", "b"), {"a": "b"}):
            self.assertIs(is_name(thing), False, object.__repr__(thing))


class Numbers(unittest.TestCase):
    def test_ordinary_ones(self):
        for number in (0, 1, 2, 7, 10, 12, 60, 99999, 100000, 500000, 999998, 999999):
            self.assertIs(is_number(number), True, number)

    def test_the_edges(self):
        self.assertEqual([is_number(n) for n in (-2, -1, 0, 1)], [False, False, True, True])
        self.assertEqual([is_number(n) for n in (999998, 999999, 1000000, 1000001)], [True, True, False, False])
        self.assertIs(is_number(10 ** 5000), False)
        self.assertIs(is_number(-10 ** 5000), False)

    def test_truths_also_behind_like_numbers(self):
        told = [is_number(thing) for thing in (1, True, 1, 0, False, 0, 1.0, 1, 0.0, 0)]
        self.assertEqual(told, [True, False, True, True, False, True, False, True, False, True])

    def test_other_kinds(self):
        for thing in OTHER_KINDS + ("", "0", "1", "a", "12", " 1", (0,), [0], {0: 0}):
            self.assertIs(is_number(thing), False, object.__repr__(thing))


class Forms(Asking):
    def test_each_form(self):
        for value in forms():
            self.is_true(value)

    def test_each_form_with_each_form_within(self):
        for value in forms():
            for outer in around(value):
                self.is_true(outer)
        for one in forms():
            for other in forms():
                for word in TWO_VALUES:
                    self.is_true((word, one, other))

    def test_the_edges_of_numbers(self):
        for number in (0, 1, 999999):
            self.is_true(("number", number))
            self.is_true(("not", ("number", number)))
        for number in (-1, 1000000, 10 ** 20):
            self.nowhere(("number", number))

    def test_every_name_of_the_lists(self):
        for name in BOXES:
            self.is_true(("box", name))
        for name in LISTS:
            self.is_true(("size", name))
            self.is_true(("item", name, ONE))

    def test_boxes_and_lists_called_like_words(self):
        self.is_true(("box", "number"), ["number"], ["box"])
        self.is_true(("item", "box", ("box", "number")), ["number"], ["box"])
        self.is_false(("box", "box"), ["number"], ["box"])

    def test_names_that_are_not_there(self):
        for name in ("c", "heap", "l", "", "aa", "A", "co", "ab", "counts"):
            self.nowhere(("box", name))
        for name in ("a", "b", "count", "", "ll", "L", "he", "heaps"):
            self.nowhere(("size", name))
            self.nowhere(("item", name, ONE))

    def test_without_any_names(self):
        self.is_true(("plus", ONE, ONE), [], [])
        self.is_false(("box", "a"), [], [])
        self.is_false(("size", "l"), [], [])
        self.is_false(("item", "l", ONE), [], [])
        self.is_false(("box", "a"), [], ["a"])
        self.is_false(("size", "l"), ["l"], [])

    def test_one_thing_less(self):
        for value in forms():
            for count in range(len(value)):
                self.nowhere(value[:count])
            for place in range(len(value)):
                self.nowhere(value[:place] + value[place + 1:])

    def test_one_thing_more(self):
        for value in forms():
            for more in (1, "a", "l", None, (), ONE, ("box", "a"), value, value[-1]):
                self.nowhere(value + (more,))

    def test_another_word(self):
        words = ("", "Number", "NUMBER", "num", "numbers", "number ", "set", "tell", "and", "or", "add", "if", "list")
        for value in forms():
            for word in words + (None, 0, True, ("number",), ["number"], {}, b"number", LikeAll(), LikeNothing()):
                self.is_false((word,) + value[1:])
        for word in ("bigger", "more", "power", "mod"):
            self.nowhere((word, ONE, ONE))

    def test_the_words_of_other_forms(self):
        for value in forms():
            for other in forms():
                if value[0] != other[0] and not (value[0] in TWO_VALUES and other[0] in TWO_VALUES):
                    self.is_false((other[0],) + value[1:])

    def test_a_list_in_the_place_of_a_tuple(self):
        for value in forms():
            self.nowhere(list(value))

    def test_other_kinds_in_each_place(self):
        for value in forms():
            for place in range(1, len(value)):
                for thing in OTHER_KINDS + ("", "zz", -1, [ONE], (ONE,), ("number",)):
                    self.is_false(value[:place] + (thing,) + value[place + 1:])

    def test_a_truth_or_a_text_in_the_place_of_a_number(self):
        for thing in (True, False, "1", "", "a", None, 1.0, [1], (1,), ONE):
            self.nowhere(("number", thing))

    def test_a_plain_number_or_name_in_the_place_of_a_value(self):
        for thing in (0, 1, "a", "l", "number", "box"):
            self.nowhere(thing)

    def test_other_kinds_are_no_values(self):
        for thing in OTHER_KINDS + ("", "number", "box", 0, 1, {"number": 1}, ["number", 1], [["number", 1]]):
            self.is_false(thing)


class Depth(Asking):
    def test_four_deep_and_five_deep(self):
        told = [is_value(nested(depth), BOXES, LISTS) for depth in range(1, 8)]
        self.assertEqual(told, [True] * 4 + [False] * 3)

    def test_each_way_down(self):
        for leaf in (ONE, ("box", "a"), ("size", "l")):
            four = [leaf]
            for _ in range(3):
                four = [deeper for value in four for deeper in around(value)]
            for value in four:
                self.is_true(value)
            for value in four[::37] + four[-20:]:
                for five in around(value):
                    self.is_false(five)

    def test_the_deeper_part_counts(self):
        for word in TWO_VALUES:
            self.is_true((word, nested(3), nested(1)))
            self.is_true((word, nested(1), nested(3)))
            self.is_true((word, nested(3), nested(3)))
            self.is_false((word, nested(4), nested(1)))
            self.is_false((word, nested(1), nested(4)))
            self.is_false((word, nested(4), nested(4)))

    def test_a_full_value_four_deep(self):
        made = ("item", "l", ("box", "a"))
        for _ in range(2):
            made = ("plus", made, made)
        self.is_true(made)
        self.is_false(("plus", made, made))

    def test_thousands_of_tuples(self):
        for depth in (100, 500, 1000, 5000, 100000):
            self.is_false(nested(depth))
            self.is_false(("plus", ONE, nested(depth)))
            self.is_false(("plus", nested(depth), ONE))
            self.is_false(("item", "l", nested(depth)))
            bare, listed = (), []
            for _ in range(depth):
                bare, listed = (bare,), [listed]
            for thing in (bare, listed):
                self.is_false(thing)
                self.is_false((thing, ONE))
                self.is_false(("number", thing))
                self.is_false(("box", thing))
                self.is_false(("size", thing))
                self.is_false(("item", thing, ONE))
                self.is_false(("not", thing))

    def test_a_wide_and_a_doubling_thing(self):
        self.is_false(("plus",) + (ONE,) * 100000)
        doubling = ONE
        for _ in range(200):
            doubling = ("plus", doubling, doubling)
        self.assertIs(is_value(doubling, BOXES, LISTS), False)

    def test_a_list_that_holds_itself(self):
        ring = ["not"]
        ring.append(ring)
        self.is_false(ring)
        self.is_false(("not", ring))


class NothingChanged(unittest.TestCase):
    def test_what_is_handed_in_stays(self):
        boxes, lists = ["b", "a", "b"], ["l", "heap"]
        thing = ["not", {"a": [1]}, ("box", ["a"])]
        kept = copy.deepcopy(thing)
        for asked in (thing, ("box", "a"), ("item", "l", ("box", "zz")), ("not", thing)):
            is_value(asked, boxes, lists)
        is_name(thing)
        is_number(thing)
        self.assertEqual(boxes, ["b", "a", "b"])
        self.assertEqual(lists, ["l", "heap"])
        self.assertEqual(thing, kept)

    def test_each_asking_stands_by_itself(self):
        boxes, lists = ["a"], ["l"]
        value = ("plus", ("box", "a"), ("size", "l"))
        self.assertIs(is_value(value, boxes, lists), True)
        self.assertIs(is_value(value, [], lists), False)
        self.assertIs(is_value(value, boxes, []), False)
        boxes.clear()
        self.assertIs(is_value(value, boxes, lists), False)
        boxes.append("a")
        self.assertIs(is_value(value, boxes, lists), True)
        lists[0] = "m"
        self.assertIs(is_value(value, boxes, lists), False)

    def test_truths_behind_like_numbers(self):
        for number, truth in ((0, False), (1, True)):
            for thing, told in ((number, True), (truth, False), (number, True)):
                self.assertIs(is_value(("number", thing), [], []), told)
                self.assertIs(is_value(("not", ("number", thing)), [], []), told)


if __name__ == "__main__":
    unittest.main()
