"""0.2 to 0.5 and the interface: what holds for each function."""

import copy
import importlib
import inspect
import unittest

from bymiddles.bars import bar
from bymiddles.books import Book
from bymiddles.errors import MiddleError
from bymiddles.roofs import roof
from bymiddles.seeing import doubt, plan
from bymiddles.shelves import shelf
from tests.plain import STRANGE, U, V, W, deep

SMALL = Book(((0, 8), (2, 5), (4, 7)))
BOUNDS = ((1, 3), (0, 2), (0, 9))
LONG = ((0, 9), (4, 9), (0, 9))
FREE = ((0, 9), (0, 9), (0, 9))


def kept(group):
    """A rule that leaves the works as they stand."""
    return group


# Each function with calls of it, and the names of its arguments in the interface.
CALLS = {
    "books": {
        "middle": ("book, work", [(W, 1)]),
        "within": ("book, work", [(W, 0)]),
        "there": ("book, lot", [(W, (1, None, 2))]),
        "is_row": ("book, thing", [(W, (1, 0)), (W, [1])]),
        "is_order": ("book, thing", [(W, (1, 0, 2))]),
        "is_group": ("book, thing", [(W, (0, 2))]),
        "is_lot": ("book, thing", [(W, (1, None, 2)), (W, [1, [2]])]),
        "part": ("book, group", [(W, (0, 2))]),
        "joined": ("one_book, other_book", [(W, U)]),
        "shifted": ("book, by", [(W, 3)]),
        "mirrored": ("book", [(W,)]),
    },
    "runs": {
        "run": ("book, row, lot", [(W, (0, 1, 2), (5, 0, 4))]),
        "serves": ("book, row, lot", [(W, (0, 1, 2), (5, 0, 4))]),
        "lateness": ("book, row, lot", [(W, (0, 1, 2), (5, 0, 4))]),
        "broken": ("book, row, lot", [(W, (1, 0, 2), (5, 0, 4))]),
        "is_broken": ("book, row, lot, thing", [(W, (1, 0, 2), (5, 0, 4), (1, 2)), (W, (0,), (1, None, None), [[0]])]),
        "room": ("book, row, lot, work", [(W, (1, 0, 2), (5, 0, 4), 2)]),
    },
    "serving": {
        "row_for": ("book, lot", [(U, (3, 2))]),
        "least_late": ("book, lot", [(U, (3, 2))]),
        "many_rows": ("book, lot", [(U, (3, 2))]),
        "ends": ("book, lot", [(U, (3, 2))]),
        "is_ends": ("book, lot, thing", [(U, (3, 2), {(): 0, (0,): 3, (1,): 6, (0, 1): 6}), (U, (3, 2), {0: [1]})]),
        "room_any": ("book, lot, work", [(U, (3, 2), 0)]),
    },
    "holding": {
        "most": ("book, row", [(W, (0, 1, 2))]),
        "filled": ("book, row", [(W, (0, 1, 2))]),
        "cover": ("book, row", [(W, (0, 1, 2))]),
        "is_filled": ("book, row, thing", [(W, (0, 1, 2), (5, 0, 4)), (W, (0, 1, 2), [[5], 0, 4])]),
        "is_cover": ("book, row, thing", [(W, (0, 1, 2), ((0, 2),)), (W, (0, 1, 2), [(0, 2)]), (W, (0,), [[0, 0]])]),
        "most_of": ("book, group", [(W, (1, 2))]),
        "row_of": ("book, group", [(W, (1, 2))]),
    },
    "orders": {
        "throws": ("book, order", [(W, (1, 0, 2))]),
        "is_one_order": ("book, thing", [(U, (1, 0)), (U, [1, 0])]),
        "one_order": ("book", [(U,), (W,)]),
        "many_orders": ("book", [(U,), (W,)]),
        "order_at": ("book, number", [(U, 1)]),
        "all_orders": ("book", [(U,), (W,)]),
    },
    "bars": {
        "bar": ("book", [(U,), (W,)]),
        "is_bar": ("book, thing", [(W, bar(W)), (W, ((0, 1, 2), {(0, 1, 2): [1]}))]),
        "barred": ("book", [(W,)]),
    },
    "strangers": {
        "refuted": ("book, order", [(W, (0, 1, 2)), (W, (1, 0, 2)), (U, (1, 0))]),
        "is_refuted": ("book, order, thing", [(W, (1, 0, 2), ((5, 0, 4), (0, 1, 2))), (W, (1, 0, 2), ([1], [2]))]),
        "rule_refuted": ("book, rule", [(W, kept), (U, kept)]),
    },
    "steady": {
        "is_steady": ("book, thing", [(W, (1, 0, 2)), (U, (1, 0)), (U, [1, 0])]),
        "steady": ("book", [(W,), (U,)]),
        "unsteady": ("book, order", [(W, (1, 0, 2)), (U, (1, 0))]),
        "is_unsteady": ("book, order, thing", [(W, (1, 0, 2), ((5, 0, 4), (0, 1, 2))), (W, (1, 0, 2), ([1], [2]))]),
        "helping": ("book", [(W,), (U,)]),
        "harming": ("book", [(W,), (U,)]),
    },
    "better": {
        "as_good": ("book, one, other", [(W, (1, 0, 2), (0, 1, 2)), (U, (1, 0), (0, 1))]),
        "missed": ("book, one, other", [(W, (1, 0, 2), (0, 1, 2)), (U, (1, 0), (0, 1))]),
        "is_missed": ("book, one, other, thing", [(W, (1, 0, 2), (0, 1, 2), (5, 0, 4)),
                                                  (W, (1, 0, 2), (0, 1, 2), [[5], 0, 4])]),
        "best": ("book", [(W,), (U,)]),
        "classes": ("book", [(W,), (U,)]),
    },
    "shelves": {
        "shelf": ("book", [(SMALL,), (Book(((0, 3), (1, 2))),)]),
        "is_shelf": ("book, thing", [(SMALL, shelf(SMALL)), (SMALL, ([0, 1, 2], [1, 0, 2]))]),
    },
    "later": {
        "regret": ("book, order", [(W, (1, 0, 2))]),
        "least_regret": ("book", [(W,)]),
        "regret_lot": ("book, order", [(W, (1, 0, 2)), (V, (0, 1, 2))]),
        "is_regret_lot": ("book, order, thing", [(W, (1, 0, 2), ((5, 0, 4), (0, 1, 2))), (W, (1, 0, 2), ([1], [2]))]),
        "worst_late": ("book, order", [(W, (1, 0, 2)), (U, (1, 0))]),
        "worst_lot": ("book, order", [(W, (1, 0, 2)), (U, (1, 0))]),
        "is_worst_lot": ("book, order, thing", [(W, (1, 0, 2), ((5, 0, 4), (0, 1, 2))), (W, (1, 0, 2), ([1], [2]))]),
        "notice": ("book, order", [(W, (1, 0, 2))]),
        "least_notice": ("book", [(W,)]),
    },
    "leaving": {
        "best_part": ("book, prices", [(W, (5, 1, 3)), (U, (1, 1))]),
    },
    "roofs": {
        "roof": ("book, prices", [(W, (5, 1, 3)), (U, (1, 1))]),
        "is_roof": ("book, prices, bound, thing", [(W, (5, 1, 3), 8, roof(W, (5, 1, 3))), (W, (5, 1, 3), 9, (["apart"],)),
                                                   (W, (5, 1, 3), 9, ("split", 0, ("apart", ()), ["apart", []]))]),
    },
    "cuts": {
        "least_cut": ("book", [(SMALL,), (Book(((0, 3), (1, 2))),)]),
        "is_narrower": ("book, thing", [(W, W), (W, [W])]),
    },
    "bounds": {
        "is_bounds": ("book, thing", [(W, BOUNDS), (W, ([0, 1], [0, 1], [0, 1]))]),
        "keeps": ("book, bounds, lot", [(W, BOUNDS, (1, None, 2))]),
        "most_within": ("book, row, bounds", [(W, (0, 1, 2), BOUNDS), (W, (0, 1, 2), LONG)]),
        "filled_within": ("book, row, bounds", [(W, (0, 1, 2), BOUNDS), (W, (0, 1, 2), LONG)]),
        "is_filled_within": ("book, row, bounds, thing", [(W, (0, 1, 2), BOUNDS, (3, 2, 4)),
                                                          (W, (0, 1, 2), BOUNDS, ([3], 2, 4))]),
        "route": ("book, row, bounds", [(W, (0, 1, 2), BOUNDS), (W, (0, 1, 2), LONG)]),
        "is_route": ("book, row, bounds, thing", [(W, (0, 1, 2), BOUNDS, (("over", 0, 2),)),
                                                  (W, (0, 1, 2), BOUNDS, [["over", 0, 2]])]),
        "round_below": ("book, row, bounds", [(W, (0, 1, 2), BOUNDS), (W, (0, 1, 2), LONG)]),
        "is_round_below": ("book, row, bounds, thing", [(W, (0, 1, 2), LONG, (("over", 1, 1), ("back", 1))),
                                                        (W, (0, 1, 2), LONG, [["over", 1, 1], ["back", 1]])]),
    },
    "within": {
        "is_one_within": ("book, bounds, thing", [(W, BOUNDS, (1, 2, 0)), (W, BOUNDS, [1, [2], 0])]),
        "one_within": ("book, bounds", [(W, ((1, 3), (1, 3), (1, 3))), (W, FREE)]),
        "missed_within": ("book, bounds, order", [(W, FREE, (1, 0, 2)), (W, FREE, (0, 1, 2)), (V, FREE, (0, 1, 2))]),
        "is_missed_within": ("book, bounds, order, thing", [(W, FREE, (1, 0, 2), ((5, 0, 4), (0, 1, 2))),
                                                            (W, FREE, (1, 0, 2), ([5, 0, 4], [0, 1, 2]))]),
        "knot": ("book, bounds", [(W, FREE), (W, ((1, 3), (1, 3), (1, 3)))]),
    },
    "seeing": {
        "plan": ("book, group", [(SMALL, (0, 1)), (SMALL, (0, 1, 2))]),
        "doubt": ("book, group", [(SMALL, (0, 1)), (SMALL, (0, 1, 2))]),
        "is_plan": ("book, group, thing", [(SMALL, (0, 1), plan(SMALL, (0, 1))), (SMALL, (2,), (2, [[]] * 4))]),
        "is_doubt": ("book, group, thing", [(SMALL, (0, 1, 2), doubt(SMALL, (0, 1, 2))), (SMALL, (2,), {2: (0, {})}),
                                            (SMALL, (0, 1), {0: [0, {1: [0, {}]}], 1: [0, {0: [0, {}]}]})]),
        "helped": ("book", [(SMALL,), (Book(((0, 3), (2, 3), (0, 4))),)]),
        "lost": ("book", [(SMALL,), (Book(((0, 3), (2, 3), (0, 4))),)]),
    },
    "counting": {
        "many_lots": ("book, row", [(W, (1, 0, 2)), (W, ())]),
        "lot_at": ("book, row, number", [(W, (1, 0, 2), 99)]),
        "lot_number": ("book, row, lot", [(W, (0, 1, 2), (5, 0, 4))]),
        "many_served": ("book", [(SMALL,)]),
        "strongest": ("book", [(W,)]),
    },
    "near": {
        "swaps": ("book, order", [(U, (1, 0)), (V, (2, 1, 0)), (W, (0, 1, 2))]),
        "nearest": ("book, order", [(U, (1, 0)), (V, (2, 1, 0)), (W, (0, 1, 2))]),
        "parting": ("book", [(W,), (U,)]),
        "is_parting": ("book, thing", [(W, ((0,), (1, 2))), (W, [[0], (1, 2)])]),
        "welcome": ("book, most", [(V, 9), (W, 20)]),
    },
    "texts": {
        "book_text": ("book", [(W,)]),
        "lot_text": ("book, lot", [(W, (5, None, 4))]),
    },
    "reading": {
        "read_book": ("text", [("work 0 10\nwork 4 6\n",)]),
        "read_lot": ("book, text", [(U, "length 5\naway\n")]),
    },
}

# Each class with its module, the arguments with which it is made, and its methods with their arguments.
CLASSES = {
    "Book": ("books", "windows", {"__eq__": "other"}),
    "Bench": ("bench", "book, order", {
        "now": "", "turn": "", "done": "length", "away": "", "lot": "", "late": "", "spare": "", "blame": "", "back": "",
        "depth": "", "copy": "", "trying": "action"}),
    "Desk": ("desk", "", {"tell": "line", "undoable": ""}),
}

INTEGERS = ["middle", "many_rows", "least_late", "lateness", "room", "room_any", "most", "most_of", "many_orders",
            "regret", "worst_late", "notice", "most_within", "many_lots", "lot_number", "many_served", "swaps"]

FLAGS = ["serves", "as_good", "keeps"]

LISTED = [(module, name) for module in CALLS for name in CALLS[module]]


def found(module, name):
    """The function of this name."""
    return getattr(importlib.import_module("bymiddles." + module), name)


def frozen(thing):
    """A thing as a text that tells all of it, the windows of books too."""
    if isinstance(thing, Book):
        return "Book" + repr(thing.windows)
    if isinstance(thing, dict):
        return "{" + ", ".join(frozen(key) + ": " + frozen(thing[key]) for key in thing) + "}"
    if isinstance(thing, (list, tuple)):
        return type(thing).__name__ + "(" + ", ".join(frozen(item) for item in thing) + ")"
    return repr(thing)


def containers(thing):
    """The lists and dicts in a thing."""
    inside = []
    if isinstance(thing, (list, tuple)):
        inside = list(thing)
    if isinstance(thing, dict):
        inside = list(thing.values())
    own = [thing] if isinstance(thing, (list, dict)) else []
    return own + [one for item in inside for one in containers(item)]


class General(unittest.TestCase):
    def test_interface(self):
        for module, name in LISTED:
            function = found(module, name)
            self.assertEqual(function.__module__, "bymiddles." + module)
            self.assertEqual(", ".join(inspect.signature(function).parameters), CALLS[module][name][0], name)
        self.assertEqual(vars(W), {"windows": ((0, 10), (2, 5), (4, 9))})

    def test_all_of_the_interface(self):
        self.assertEqual(sorted(CALLS), sorted(
            "books runs serving holding orders bars strangers steady better shelves later leaving roofs cuts bounds within "
            "seeing counting near texts reading".split()))
        self.assertEqual(len(LISTED), 11 + 6 + 6 + 7 + 6 + 3 + 3 + 6 + 5 + 2 + 9 + 1 + 2 + 2 + 9 + 5 + 6 + 5 + 5 + 2 + 2)

    def test_classes(self):
        for name, (module, made_with, methods) in CLASSES.items():
            one = found(module, name)
            self.assertEqual(one.__module__, "bymiddles." + module)
            self.assertEqual(", ".join(inspect.signature(one).parameters), made_with)
            for method, arguments in methods.items():
                self.assertTrue(inspect.isfunction(vars(one)[method]), method)
                parameters = list(inspect.signature(vars(one)[method]).parameters)
                self.assertEqual((parameters[0], ", ".join(parameters[1:])), ("self", arguments), method)

    def test_arguments_stay_as_they_were(self):
        for module, name in LISTED:
            for call in CALLS[module][name][1]:
                before = frozen(call)
                found(module, name)(*call)
                self.assertEqual(frozen(call), before, name)

    def test_equal_calls_give_equal_answers(self):
        for module, name in LISTED:
            for call in CALLS[module][name][1]:
                first = found(module, name)(*call)
                second = found(module, name)(*copy.deepcopy(call))
                self.assertEqual(frozen(first), frozen(second), name)

    def test_lists_and_dicts_are_new(self):
        for module, name in LISTED:
            for call in CALLS[module][name][1]:
                answer = found(module, name)(*call)
                before = frozen(answer)
                others = containers(found(module, name)(*call)) + containers(call)
                for one in containers(answer):
                    self.assertFalse(any(one is other for other in others), name)
                    one.clear()
                self.assertEqual(frozen(found(module, name)(*call)), before, name)

    def test_judges_return_flags(self):
        for module, name in LISTED:
            if name.startswith("is_"):
                for call in CALLS[module][name][1]:
                    for thing in STRANGE + [call[-1]]:
                        self.assertIsInstance(found(module, name)(*call[:-1], thing), bool, name)

    def test_wrong_arguments_raise_no_other_errors(self):
        for module, name in LISTED:
            for call in CALLS[module][name][1]:
                for at in range(0 if name == "read_book" else 1, len(call)):
                    if name not in ("joined", "rule_refuted"):
                        self.no_other_error(found(module, name), call, at)

    def no_other_error(self, function, call, at):
        """Calls it with each strange thing in one place."""
        for thing in STRANGE + [deep(tuple, 39), deep(list, 39), deep(dict, 39)]:
            before = frozen(thing)
            try:
                function(*call[:at], thing, *call[at + 1:])
            except MiddleError:
                pass
            self.assertEqual(frozen(thing), before)


class Kinds(unittest.TestCase):
    def test_numbers_are_integers_and_no_flags(self):
        for module, name in LISTED:
            for call in CALLS[module][name][1]:
                answer = found(module, name)(*call)
                if name in INTEGERS and answer is not None:
                    self.assertIs(type(answer), int, name)
                if name in FLAGS:
                    self.assertIs(type(answer), bool, name)
