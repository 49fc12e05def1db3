"""Stage 10: halls."""

from evencoins.errors import InvalidCircuit, InvalidHall, InvalidNumber, InvalidOperation, UnknownName
from evencoins.plan.circuits import Circuit
from evencoins.talk.halls import Hall, batches, coins_of, is_for, numbers_told, round_kinds, rounds
from tests.helper import (
    LARGE, LONG, ODD, PRODUCT, SMALL, WRONG_CIRCUITS, WRONG_FIELDS, WRONG_HALLS, Case, keyed, wrong_numbers,
)

HALL = (InvalidHall, WRONG_HALLS)
CIRCUIT = (InvalidCircuit, WRONG_CIRCUITS)
LINES = (InvalidOperation, (0, 1, None, "True", (), (True,), [False], {}, LONG, PRODUCT))
WIDE = Hall(11, 9, 2, "lie")
WIDEST = Hall(11, 9, 4, "look")
# No inputs and one level; inputs of two houses, and three levels; no products.
BARE = Circuit((("constant", 2), ("product", 0, 0)), ((1, (1,)),))
DEEP = Circuit((
    ("input", 3), ("input", 1), ("product", 0, 1), ("input", 3), ("product", 3, 3), ("sum", 2, 4), ("product", 5, 5),
    ("constant", 6), ("times", 6, 6), ("product", 8, 7)), ((9, (1, 2, 3)), (4, (2,)), (9, (1,))))
PLAIN = Circuit((("input", 2), ("input", 2), ("sum", 0, 1)), ((2, (1,)),))
BATCH = ["rows", "points", "complaints", "answers", "votes"]
VALUES = ODD + (("look", 7), str(LARGE), (7, 5, 1, "lie"))


def on_lines(words, most):
    """The words, each round on the wall being exchanged for those of kings."""
    found = []
    for word in words:
        found += ["say"] + ["tell", "king"] * (most + 1) if word in ("complaints", "answers", "votes") else [word]
    return tuple(found)


class ExamplesTest(Case):

    def test_examples(self):
        self.assertEqual(
            [batches(SMALL, PRODUCT), round_kinds(SMALL, PRODUCT), rounds(LARGE, PRODUCT),
             rounds(LARGE, PRODUCT, lines=True)],
            [(((0, 1), (1, 2)), ((2, 1), (2, 2), (2, 3))), ("shares", "shares", "outputs"), 12, 36])
        self.assertEqual([coins_of(SMALL, PRODUCT, 1), coins_of(LARGE, PRODUCT, 3), numbers_told(SMALL, PRODUCT),
                          SMALL.is_lot((1, 2))], [2, 2, 14, False])


class HallTest(Case):

    def test_all_bounds(self):
        for field in (5, 7, 11, 997):
            for houses in range(0, 13):
                for kind, factor in (("look", 2), ("lie", 4)):
                    for most in range(-1, 7):
                        wanted = (field, houses, most, kind)
                        if not 3 <= houses <= 9 or houses >= field:
                            self.raises(InvalidNumber, houses, Hall, *wanted)
                        elif most < 1 or factor * most >= houses:
                            self.raises(InvalidNumber, most, Hall, *wanted)
                        else:
                            hall = Hall(*wanted)
                            self.assertEqual((hall.field, hall.houses, hall.most, hall.kind), wanted)
                            self.assertEqual(hall.places, tuple(range(1, houses + 1)))
                            self.assertEqual(str(hall), "%s hall of %d houses, most %d, field %d" % (
                                kind, houses, most, field))

    def test_texts(self):
        self.assertEqual([str(LARGE), str(SMALL)], [
            "lie hall of 5 houses, most 1, field 7", "look hall of 3 houses, most 1, field 7"])

    def test_refused(self):
        kinds = (UnknownName, ("Look", "", "look ", "lies", None, True, 1, ("look",), ["lie"], {}, PRODUCT, SMALL))
        self.refuses(Hall, (7, 5, 1, "lie"), (
            (InvalidNumber, WRONG_FIELDS), (InvalidNumber, wrong_numbers(3, 6)), (InvalidNumber, ()), kinds))
        self.refuses(Hall, (7, 5, 1, "lie"), (
            (InvalidNumber, ()), (InvalidNumber, ()), (InvalidNumber, wrong_numbers(1, 1)), (UnknownName, ())))
        for kind in kinds[1]:
            for most in wrong_numbers(1, 2) + (1, 3):
                self.raises(UnknownName, kind, Hall, 11, 5, most, kind)
            self.raises(InvalidNumber, 2, Hall, 11, 2, 1, kind)
            self.raises(InvalidNumber, 9, Hall, 9, 5, 1, kind)
        for most in wrong_numbers(1, 2):
            self.raises(InvalidNumber, most, Hall, 11, 5, most, "look")
        for most in wrong_numbers(1, 4):
            self.raises(InvalidNumber, most, Hall, 11, 9, most, "look")

    def test_equal(self):
        halls = [Hall(p, n, t, kind) for p in (7, 11) for n in (5, 6) for t in (1, 2) for kind in ("look", "lie")
                 if t == 1 or kind == "look"]
        for one in range(len(halls)):
            for other in range(len(halls)):
                self.assertIs(halls[one] == halls[other], one == other)
                self.assertIs(halls[one] != halls[other], one != other)
        self.is_true(Hall(7, 5, 1, "lie") == LARGE)
        self.is_false(Hall(7, 5, 1, "lie") != LARGE)
        for value in VALUES:
            self.is_false(LARGE == value)
            self.is_false(value == LARGE)
            self.is_true(LARGE != value)
        self.assertNotIn(LARGE, VALUES)
        self.assertIn(LARGE, [None, SMALL, Hall(7, 5, 1, "lie")])

    def test_not_iterated(self):
        with self.assertRaises(TypeError):
            iter(SMALL)
        with self.assertRaises(TypeError):
            list(SMALL)

    def test_lots(self):
        for hall in (SMALL, LARGE, WIDE, WIDEST):
            n, t = hall.houses, hall.most
            self.is_true(hall.is_lot(()))
            for lot in ((1,), (n,), tuple(range(1, t + 1)), tuple(range(n - t + 1, n + 1))):
                self.is_true(hall.is_lot(lot), lot)
            for lot in (tuple(range(1, t + 2)), (0,), (n + 1,), (True,), [1], (1, 1), ("1",), (None,), 1, None, {1: 1},
                        (LONG,), (-1,), ((1,),), (1.0,)):
                self.is_false(hall.is_lot(lot), lot)
            self.judges(hall.is_lot, ())
        self.assertEqual([WIDE.is_lot(lot) for lot in ((1, 2), (2, 1), (2, 2), (3, 9), (9, 10), (1, 2, 3), (True, 2))],
                         [True, False, False, True, False, False, False])


class CircuitsTest(Case):

    def test_for_the_hall(self):
        for circuit, halls in ((PRODUCT, (SMALL, LARGE, WIDE)), (DEEP, (SMALL, LARGE, WIDE)), (BARE, (SMALL, WIDEST))):
            for hall in halls:
                self.same(True, is_for, hall, circuit)
        def one(*gates, told=(1,)):
            return Circuit(gates, ((0, told),))
        for circuit, small, large, wide in (
                (one(("input", 3)), True, True, True), (one(("input", 4)), False, True, True),
                (one(("input", 6)), False, False, True), (one(("input", 1), told=(1, 3)), True, True, True),
                (one(("input", 1), told=(3, 5)), False, True, True), (one(("input", 1), told=(6,)), False, False, True),
                (one(("constant", 6)), True, True, True), (one(("constant", 7)), False, False, True),
                (one(("constant", 10)), False, False, True), (one(("constant", 11)), False, False, False),
                (one(("input", 1), ("times", 0, 6)), True, True, True),
                (one(("input", 1), ("times", 0, 7)), False, False, True),
                (one(("input", 1), ("times", 0, 11)), False, False, False),
                (one(("input", 1), ("input", 2), ("input", 9)), False, False, True)):
            for hall, right in ((SMALL, small), (LARGE, large), (WIDE, wide)):
                self.same(right, is_for, hall, circuit)
                if not right:
                    for function in (batches, round_kinds, rounds, numbers_told):
                        self.raises(InvalidCircuit, None, function, hall, circuit)
        for hall in (SMALL, LARGE):
            self.judges(is_for, (hall,), WRONG_CIRCUITS)
            self.judges(is_for, (hall,), [odd for odd in ODD if not isinstance(odd, Circuit)])

    def test_batches(self):
        self.same((((0, 3), (1, 1), (3, 3)),) + tuple(tuple((gate, house) for gate in level for house in (1, 2, 3))
                                                    for level in ((2, 4), (6,), (9,))), batches, SMALL, DEEP)
        self.same(((), tuple((1, house) for house in range(1, 10))), batches, WIDE, BARE)
        self.same((((0, 2), (1, 2)),), batches, LARGE, PLAIN)

    def test_rounds(self):
        for hall in (SMALL, LARGE, WIDE, WIDEST):
            for circuit, levels in ((PLAIN, 0), (PRODUCT, 1), (BARE, 1), (DEEP, 3)):
                if hall.kind == "look":
                    words = longer = ("shares",) * (levels + 1) + ("outputs",)
                else:
                    words = tuple(BATCH + (BATCH + ["syndromes"]) * levels + ["outputs"])
                    longer = on_lines(words, hall.most)
                    self.assertEqual(len(words), 6 * levels + 6)
                    self.assertEqual(len(longer), len(words) + 6 * (levels + 1) * (hall.most + 1))
                self.same(words, round_kinds, hall, circuit)
                self.assertEqual(round_kinds(hall, circuit, lines=False), words)
                self.assertEqual(round_kinds(hall, circuit, lines=True), longer)
                self.assertEqual([rounds(hall, circuit), rounds(hall, circuit, lines=False)], [len(words)] * 2)
                self.assertEqual(rounds(hall, circuit, lines=True), len(longer))

    def test_coins(self):
        for hall, each in ((SMALL, 1), (LARGE, 2), (WIDE, 5), (WIDEST, 4)):
            for circuit, owned, products in ((DEEP, {1: 1, 3: 2}, 4), (PLAIN, {2: 2}, 0), (BARE, {}, 1)):
                for house in hall.places:
                    self.same((owned.get(house, 0) + products) * each, coins_of, hall, circuit, house)

    def test_numbers_told(self):
        for hall in (SMALL, LARGE, WIDE, WIDEST):
            n, t = hall.houses, hall.most
            for circuit, inputs, products, told in ((DEEP, 3, 4, 5), (PLAIN, 2, 0, 1), (BARE, 0, 1, 1), (PRODUCT, 2, 1, 2)):
                dealings = inputs + products * n
                if hall.kind == "look":
                    right = dealings * (n - 1)
                else:
                    right = dealings * ((n - 1) * (t + 1) + n * (n - 1)) + products * n * (n - 1) * (n - 2 * t - 1)
                self.same(right + told * (n - 1), numbers_told, hall, circuit)


class RefusalsTest(Case):

    def test_in_sequence(self):
        for hall in (SMALL, LARGE):
            for function in (batches, numbers_told):
                self.refuses(function, (hall, DEEP), (HALL, CIRCUIT))
            for function in (rounds, round_kinds):
                self.refuses(function, (hall, DEEP), (HALL, CIRCUIT))
                self.refuses(keyed(function, 2, "lines"), (hall, DEEP, True), (HALL, CIRCUIT, LINES))
            self.refuses(coins_of, (hall, DEEP, 3), (HALL, CIRCUIT, (InvalidNumber, wrong_numbers(1, hall.houses))))
        for odd in WRONG_HALLS:
            for value in ODD + (DEEP,):
                self.raises(InvalidHall, None, is_for, odd, value)
