"""Names, numbers of arguments and places of all that the document lists."""

import importlib
import inspect

from evencoins.plan.circuits import Circuit
from evencoins.talk.halls import Hall
from tests.helper import PRODUCT, SMALL, Case

CONSTANTS = {
    "evencoins.base.field": {"LEAST_FIELD": 5, "MAX_FIELD": 997, "MAX_POWER": 10 ** 6, "MAX_SIDE": 60},
    "evencoins.base.polys": {"MAX_DEGREE": 60},
    "evencoins.codes.words": {"MAX_HOUSES": 9, "MAX_ERRORS": 4},
    "evencoins.codes.sharing": {"MAX_HOUSES": 9},
    "evencoins.codes.square": {"MAX_MOST": 4},
    "evencoins.plan.circuits": {
        "MAX_GATES": 60, "MAX_PRODUCTS": 12, "MAX_INPUTS": 8, "MAX_OUTPUTS": 6, "MAX_TERMS": 2000,
    },
    "evencoins.plan.programs": {
        "MAX_STATEMENTS": 40, "MAX_DONE": 200, "MAX_POWER": 60, "MAX_PAIRS": 12, "MAX_DEEP": 6,
    },
    "evencoins.talk.halls": {
        "LEAST_HOUSES": 3, "MOST_HOUSES": 9, "KINDS": ("look", "lie"),
        "LINE_WORDS": ("shares", "rows", "points", "syndromes", "outputs"),
        "WALL_WORDS": ("complaints", "answers", "votes"),
    },
    "evencoins.talk.letters": {"MOST_LIES": 300},
    "evencoins.judge.counts": {"MOST_ROWS": 700},
    "evencoins.judge.schemes": {"MAX_SECRETS": 8, "MAX_COINS": 24, "MAX_ROWS": 60},
    "evencoins.watch.watches": {"MOST_KEPT": 4, "MOST_ACTS": 12},
    "evencoins.judge.guards": {
        "RULES": ("coins", "degree", "complaints", "answers", "votes", "errors", "nearest", "king", "bound"),
        "MAX_ROWS": 700,
    },
    "evencoins.text.texts": {"MOST_TEXT": 200000},
    "evencoins.judge.locked": {"MAX_LINES": 12, "MAX_ENTRY": 60, "MAX_LOTS": 12},
}
FUNCTIONS = {
    "evencoins.base.field": {
        "is_field": 1, "is_number": 2, "plus": 3, "minus": 3, "times": 3, "undone": 2, "power": 3, "power_sum": 2,
        "weighted": 3, "vectors_count": 3, "vectors_with": 3, "moved": 4,
    },
    "evencoins.base.polys": {
        "is_poly": 2, "poly_sum": 3, "poly_scaled": 3, "poly_product": 3, "poly_divided": 3, "value_at": 3,
        "values_at": 3, "through": 2, "weights": 3, "checks": 3, "hiding": 2, "hidden": 4,
    },
    "evencoins.base.tables": {
        "is_table": 2, "transposed": 2, "table_product": 3, "times_vector": 3, "vector_times": 3, "reduced": 2,
        "rank": 2, "heads": 2, "kernel": 2, "solved_or_barred": 3, "is_solved_paper": 4, "solutions_count": 3,
        "solutions": 3, "shift_or_row": 5, "is_shift_paper": 6,
    },
    "evencoins.codes.words": {
        "is_word": 2, "near_or_far": 4, "is_word_paper": 5, "decoded": 4, "syndromes": 3, "errors_of": 4, "word_of": 3,
    },
    "evencoins.codes.sharing": {
        "dealt": 4, "opened": 3, "sharing_paper": 3, "is_sharing_paper": 4, "told_count": 5, "changed_coins": 5,
        "sum_paper": 4, "is_sum_paper": 5,
    },
    "evencoins.codes.square": {
        "is_square": 3, "is_row": 3, "square": 4, "row_of": 3, "share_of": 3, "do_meet": 5, "square_of": 2,
        "changed_square": 6, "hidden_count": 3,
    },
    "evencoins.plan.circuits": {"form_of": 3, "alike_or_parted": 3, "is_parting": 5, "pruned": 1},
    "evencoins.plan.programs": {"is_program": 1, "is_fit": 2, "houses_of": 1, "run_program": 3, "straight": 1},
    "evencoins.plan.compiled": {"cost_of": 2, "size_of": 2, "compiled": 2, "is_compiled": 3, "merged": 1},
    "evencoins.talk.halls": {
        "is_for": 2, "batches": 2, "round_kinds": 2, "rounds": 2, "coins_of": 3, "numbers_told": 2,
    },
    "evencoins.talk.letters": {
        "is_plain": 1, "is_right_letter": 7, "blank_letter": 6, "right_letter": 7, "is_lies": 4, "spoken": 5,
    },
    "evencoins.talk.dealing": {
        "rows_for": 5, "points_for": 4, "complaints_of": 5, "answers_of": 6, "votes_of": 6, "shares_behind": 6,
    },
    "evencoins.talk.products": {
        "local_products": 4, "syndromes_of": 2, "errors_told": 2, "product_share": 3, "opened_number": 2,
    },
    "evencoins.talk.kings": {
        "most_heard": 1, "kept": 3, "phases": 4, "agreed": 4, "walled": 5, "settling": 4, "latest": 2, "late_paper": 2,
        "is_late_paper": 3,
    },
    "evencoins.judge.views": {"are_alike": 2, "exchanged": 2, "is_exchange": 3, "made_view": 6},
    "evencoins.judge.sound": {
        "common_poly": 3, "is_common_paper": 4, "truths": 1, "product_word": 2, "errors_in": 2, "fault": 1, "is_sound": 1,
    },
    "evencoins.judge.counts": {
        "row_count": 3, "coin_rows": 3, "view_counts": 6, "alike_rows": 4, "even_or_parted": 7, "is_even_paper": 8,
        "count_power": 5,
    },
    "evencoins.judge.schemes": {
        "view": 4, "due": 3, "parting": 2, "is_parting": 3, "least_parted": 2, "rows_behind": 2, "recipe": 2,
        "is_recipe": 3, "scheme_of": 2,
    },
    "evencoins.watch.watches": {"seen": 2, "widths": 2, "numbers_told": 2, "exchanged": 3, "is_exchange": 4},
    "evencoins.judge.guards": {"is_explained": 1, "is_parted": 2, "broken_run": 1, "is_broken_run": 2},
    "evencoins.text.texts": {
        "plain_text": 1, "read_plain": 1, "circuit_text": 1, "read_circuit": 1, "run_text": 1, "read_run": 1,
        "is_run_text": 1, "tight": 2, "is_tight": 2, "told_lies": 1,
    },
    "evencoins.judge.locked": {
        "tree_or_locked": 1, "is_tree_paper": 2, "talk_along": 4, "sum_or_square": 1, "is_sum_paper": 2,
        "two_that_cover": 2, "holders": 2, "split": 5,
    },
}
# The functions and classes with keywords, and these with what counts if they are not passed.
KEYWORDS = {
    ("evencoins.talk.halls", "round_kinds"): {"lines": False}, ("evencoins.talk.halls", "rounds"): {"lines": False},
    ("evencoins.talk.letters", "is_lies"): {"lines": False},
    ("evencoins.talk.houses", "House"): {"without": None, "lines": False},
    ("evencoins.talk.runs", "Run"): {"without": None, "lot": (), "lines": False, "lies": None},
    ("evencoins.judge.views", "made_view"): {"lines": False, "lies": None},
    ("evencoins.judge.counts", "view_counts"): {"without": None},
    ("evencoins.judge.counts", "even_or_parted"): {"without": None},
    ("evencoins.judge.counts", "is_even_paper"): {"without": None},
}
CIRCUIT = (("input", 1),), ((0, (1,)),)
# For each class what makes an object, its methods and its properties with their kinds.
CLASSES = {
    ("evencoins.plan.circuits", "Circuit"): (
        CIRCUIT, {"inputs_of": 1, "meaning": 2, "told": 2},
        {"gates": tuple, "outputs": tuple, "inputs": tuple, "houses": tuple, "levels": tuple}),
    ("evencoins.talk.halls", "Hall"): (
        (7, 5, 1, "lie"), {"is_lot": 1}, {"field": int, "houses": int, "most": int, "kind": str, "places": tuple}),
    ("evencoins.talk.houses", "House"): (
        (SMALL, PRODUCT, 1, (3,), (2, 5)), {"secrets": 0, "says": 0, "hearing": 2},
        {"number": int, "round": int, "is_done": bool, "shares": dict, "dealt": dict, "taken": tuple, "outputs": dict,
         "view": tuple}),
    ("evencoins.talk.runs", "Run"): (
        (SMALL, PRODUCT, (3, 4), {1: (1, 2), 2: (3, 4), 3: (5,)}), {},
        {"hall": Hall, "circuit": Circuit, "inputs": tuple, "coins": dict, "lot": tuple, "lies": dict, "lines": bool,
         "without": type(None), "rounds": int, "houses": dict, "letters": dict, "shares": dict, "committed": tuple,
         "outputs": dict, "view": tuple}),
    ("evencoins.judge.schemes", "Scheme"): (
        (5, 2, (1, 2), (1,), ((2, (0, 1, 0, 1)),), ()), {},
        {"field": int, "houses": int, "owners": tuple, "coins": tuple, "letters": tuple, "outputs": tuple}),
    ("evencoins.watch.watches", "Watch"): (
        (SMALL, (3,), ((1,),)), {"refreshed": 1, "mended": 2},
        {"hall": Hall, "numbers": tuple, "coins": tuple, "epoch": int, "shares": tuple, "acts": tuple}),
}


class InterfaceTest(Case):

    def takes(self, function, many):
        inspect.signature(function).bind(*[None] * many)

    def test_constants(self):
        for module, table in CONSTANTS.items():
            for name, number in table.items():
                found = getattr(importlib.import_module(module), name)
                self.assertEqual((type(found), found), (type(number), number), (module, name))

    def test_functions(self):
        for module, table in FUNCTIONS.items():
            for name, many in table.items():
                function = getattr(importlib.import_module(module), name)
                self.assertEqual((function.__module__, function.__name__), (module, name))
                self.takes(function, many)

    def test_keywords(self):
        for module, table in FUNCTIONS.items():
            for name in table:
                parameters = inspect.signature(getattr(importlib.import_module(module), name)).parameters.values()
                found = {part.name: part.default for part in parameters if part.kind is part.KEYWORD_ONLY}
                self.assertEqual(found, KEYWORDS.get((module, name), {}), (module, name))

    def test_keywords_of_classes(self):
        for module, name in CLASSES:
            parameters = inspect.signature(getattr(importlib.import_module(module), name)).parameters.values()
            found = {part.name: part.default for part in parameters if part.kind is part.KEYWORD_ONLY}
            self.assertEqual(found, KEYWORDS.get((module, name), {}), (module, name))

    def test_classes(self):
        for (module, name), (arguments, methods, properties) in CLASSES.items():
            made = getattr(importlib.import_module(module), name)
            self.assertEqual((made.__module__, made.__name__), (module, name))
            held = made(*arguments)
            for method, many in methods.items():
                self.assertIn(method, vars(made))
                self.takes(getattr(held, method), many)
            for each, kind in properties.items():
                self.assertIs(type(getattr(held, each)), kind)
                with self.assertRaises(AttributeError):
                    setattr(held, each, getattr(held, each))
