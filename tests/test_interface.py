"""Names, numbers of arguments and places of all that the document lists."""

import importlib
import inspect

from tests.helper import Case

CONSTANTS = {
    "evencoins.base.field": {"LEAST_FIELD": 5, "MAX_FIELD": 997, "MAX_POWER": 10 ** 6, "MAX_SIDE": 60},
    "evencoins.base.polys": {"MAX_DEGREE": 60},
    "evencoins.codes.words": {"MAX_HOUSES": 9, "MAX_ERRORS": 4},
    "evencoins.codes.sharing": {"MAX_HOUSES": 9},
    "evencoins.codes.square": {"MAX_MOST": 4},
    "evencoins.plan.circuits": {
        "MAX_GATES": 60, "MAX_PRODUCTS": 12, "MAX_INPUTS": 8, "MAX_OUTPUTS": 6, "MAX_TERMS": 2000,
    },
}
FUNCTIONS = {
    "evencoins.base.field": {
        "is_field": 1, "is_number": 2, "plus": 3, "minus": 3, "times": 3, "undone": 2, "power": 3, "power_sum": 2,
        "weighted": 3, "vectors_count": 3, "vectors_with": 3, "moved": 4,
    },
    "evencoins.base.polys": {
        "is_poly": 2, "poly_sum": 3, "poly_scaled": 3, "poly_product": 3, "poly_divided": 3, "value_at": 3,
        "values_at": 3, "through": 2, "weights": 3, "checks": 3, "hiding": 2, "hidden": 4,
    },
    "evencoins.base.tables": {
        "is_table": 2, "transposed": 2, "table_product": 3, "times_vector": 3, "vector_times": 3, "reduced": 2,
        "rank": 2, "heads": 2, "kernel": 2, "solved_or_barred": 3, "is_solved_paper": 4, "solutions_count": 3,
        "solutions": 3, "shift_or_row": 5, "is_shift_paper": 6,
    },
    "evencoins.codes.words": {
        "is_word": 2, "near_or_far": 4, "is_word_paper": 5, "decoded": 4, "syndromes": 3, "errors_of": 4, "word_of": 3,
    },
    "evencoins.codes.sharing": {
        "dealt": 4, "opened": 3, "sharing_paper": 3, "is_sharing_paper": 4, "told_count": 5, "changed_coins": 5,
        "sum_paper": 4, "is_sum_paper": 5,
    },
    "evencoins.codes.square": {
        "is_square": 3, "is_row": 3, "square": 4, "row_of": 3, "share_of": 3, "do_meet": 5, "square_of": 2,
        "changed_square": 6, "hidden_count": 3,
    },
    "evencoins.plan.circuits": {"form_of": 3, "alike_or_parted": 3, "is_parting": 5, "pruned": 1},
}
METHODS = {"inputs_of": 1, "meaning": 2, "told": 2}
PROPERTIES = ("gates", "outputs", "inputs", "houses", "levels")


class InterfaceTest(Case):

    def takes(self, function, many):
        inspect.signature(function).bind(*[None] * many)

    def test_constants(self):
        for module, table in CONSTANTS.items():
            for name, number in table.items():
                found = getattr(importlib.import_module(module), name)
                self.assertEqual((type(found), found), (int, number), (module, name))

    def test_functions(self):
        for module, table in FUNCTIONS.items():
            for name, many in table.items():
                function = getattr(importlib.import_module(module), name)
                self.assertEqual((function.__module__, function.__name__), (module, name))
                self.takes(function, many)

    def test_circuit(self):
        circuits = importlib.import_module("evencoins.plan.circuits")
        self.assertEqual(circuits.Circuit.__module__, "evencoins.plan.circuits")
        circuit = circuits.Circuit((("input", 1),), ((0, (1,)),))
        for name, many in METHODS.items():
            self.assertIn(name, vars(circuits.Circuit))
            self.takes(getattr(circuit, name), many)
        for name in PROPERTIES:
            self.assertIs(type(getattr(circuit, name)), tuple)
