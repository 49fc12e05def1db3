"""Stage 19: talks as rows."""

import random
from itertools import combinations

from evencoins.base.tables import kernel
from evencoins.errors import (
    InvalidCircuit, InvalidCoins, InvalidHall, InvalidInputs, InvalidLot, InvalidNumber, InvalidOperation, InvalidScheme,
)
from evencoins.judge.schemes import (
    Scheme, due, is_parting, is_recipe, least_parted, parting, recipe, rows_behind, scheme_of, view,
)
from evencoins.plan.circuits import Circuit
from evencoins.talk.halls import Hall
from evencoins.talk.runs import Run
from tests.helper import (
    LARGE, LONG, ODD, PRODUCT, SMALL, WRONG_CIRCUITS, WRONG_FIELDS, WRONG_HALLS, Case, all_rows, dot, swapped,
    wrong_numbers, wrong_rows,
)
from tests.talks import LOOK5, SUM, random_numbers, random_parts
from tests.test_halls import BARE, PLAIN, WIDEST

MASKED = Scheme(5, 2, (1, 2), (1,), ((2, (0, 1, 0, 1)),), ())
OPEN = Scheme(5, 2, (1, 2), (), ((2, (0, 1, 1)),), ((2, (0, 1, 1)),))
LINEAR = Circuit((("input", 2), ("input", 1), ("constant", 3), ("sum", 0, 1), ("times", 3, 4), ("sum", 4, 2), ("input", 1)),
                 ((5, (1, 3)), (6, (2,)), (3, (3,))))


def random_scheme(told, field=5, most=3):
    """A small scheme, with many zeros."""
    houses = told.randrange(1, 4)
    secrets, coins = told.randrange(1, most), told.randrange(0, most)

    def row(many):
        return tuple(told.choice((0, 0, told.randrange(field))) for _ in range(many))
    return Scheme(
        field, houses, tuple(told.randrange(1, houses + 1) for _ in range(secrets)),
        tuple(told.randrange(1, houses + 1) for _ in range(coins)),
        tuple((told.randrange(1, houses + 1), row(1 + secrets + coins)) for _ in range(told.randrange(4))),
        tuple((told.randrange(1, houses + 1), row(1 + secrets)) for _ in range(told.randrange(3))))


def lots_of(scheme):
    """All ascending tuples of houses."""
    houses = range(1, scheme.houses + 1)
    return [lot for many in range(scheme.houses + 1) for lot in combinations(houses, many)]


def view_by(scheme, lot, numbers, coins):
    """What a lot has and hears."""
    found = [number for number, owner in zip(numbers, scheme.owners) if owner in lot]
    found += [coin for coin, owner in zip(coins, scheme.coins) if owner in lot]
    row = (1,) + numbers + coins
    return tuple(found + [dot(scheme.field, letter, row) for house, letter in scheme.letters if house in lot])


def due_by(scheme, lot, numbers):
    """What a lot is to be told."""
    return tuple(dot(scheme.field, row, (1,) + numbers) for house, row in scheme.outputs if house in lot)


def counts_by(scheme, lot):
    """For each row of secrets the counts of its views."""
    found = {}
    for numbers in all_rows(scheme.field, len(scheme.owners)):
        counts = {}
        for coins in all_rows(scheme.field, len(scheme.coins)):
            seen = view_by(scheme, lot, numbers, coins)
            counts[seen] = counts.get(seen, 0) + 1
        found[numbers] = counts
    return found


def is_even_by(scheme, lot, counts):
    """Whether alike secrets have equal counts."""
    groups = {}
    for numbers in counts:
        own = tuple(number for number, owner in zip(numbers, scheme.owners) if owner in lot)
        groups.setdefault((own, due_by(scheme, lot, numbers)), []).append(counts[numbers])
    return all(each == group[0] for group in groups.values() for each in group)


def basis_by(scheme, lot):
    """The basis of the moves."""
    many = len(scheme.owners)
    rows = [(0,) * many]
    rows += [tuple(int(k == place) for k in range(many)) for place, owner in enumerate(scheme.owners) if owner in lot]
    rows += [row[1:] for house, row in scheme.outputs if house in lot]
    return kernel(scheme.field, tuple(rows))


class ExamplesTest(Case):

    def test_examples(self):
        self.assertEqual([view(MASKED, (2,), (3, 4), (1,)), parting(MASKED, (2,)), rows_behind(MASKED, (2,))],
                         [(4, 4), ("even", ((4,),)), 1])
        self.assertEqual([parting(OPEN, (2,)), recipe(OPEN, 0), is_parting(OPEN, (1,), ("even", ((),)))],
                         [("even", ()), ("told", 0, (0, 1)), True])


class SchemeTest(Case):

    def test_views(self):
        told = random.Random(1)
        for _ in range(240):
            scheme = random_scheme(told, 7, 5)
            numbers = random_numbers(told, 7, len(scheme.owners))
            coins = random_numbers(told, 7, len(scheme.coins))
            for lot in lots_of(scheme):
                self.same(view_by(scheme, lot, numbers, coins), view, scheme, lot, numbers, coins)
            for house in range(1, scheme.houses + 1):
                self.same(due_by(scheme, (house,), numbers), due, scheme, house, numbers)

    def test_equal(self):
        parts = (5, 2, (1, 2), (1,), ((2, (0, 1, 0, 1)),), ((1, (0, 1, 2)),))
        others = (7, 3, (2, 2), (2,), ((1, (0, 1, 0, 1)),), ((1, (0, 1, 3)),))
        self.is_true(Scheme(*parts) == Scheme(*parts))
        self.is_false(Scheme(*parts) != Scheme(*parts))
        for index in range(6):
            changed = parts[:index] + (others[index],) + parts[index + 1:]
            self.is_false(Scheme(*changed) == Scheme(*parts))
            self.is_true(Scheme(*changed) != Scheme(*parts))
        for odd in ODD + (parts, SMALL):
            self.is_false(OPEN == odd)
            self.is_true(OPEN != odd)
            self.is_false(odd == OPEN)
        self.assertNotIn(OPEN, ODD)
        with self.assertRaises(TypeError):
            iter(OPEN)
        for name in ("field", "houses", "owners", "coins", "letters", "outputs"):
            with self.assertRaises(AttributeError):
                setattr(OPEN, name, getattr(OPEN, name))
        self.assertEqual([getattr(OPEN, name) for name in ("field", "houses", "owners", "coins", "letters", "outputs")],
                         [5, 2, (1, 2), (), ((2, (0, 1, 1)),), ((2, (0, 1, 1)),)])

    def test_bounds(self):
        row = (0,) * 33
        good = (5, 9, (1,) * 8, (2,) * 24, ((3, row),) * 60, ((4, row[:9]),) * 8)
        scheme = Scheme(*good)
        self.assertEqual([len(part) for part in (scheme.owners, scheme.coins, scheme.letters, scheme.outputs)],
                         [8, 24, 60, 8])
        self.assertEqual(parting(scheme, (1, 3)), ("even", ()))
        self.assertEqual(parting(scheme, (3,)), ("even", ((0,) * 24,) * 8))
        self.assertEqual(rows_behind(scheme, (3,)), 5 ** 24)
        for changes in ((2, (1,) * 9), (2, ()), (3, (2,) * 25), (4, ((3, row),) * 61), (5, ((4, row[:9]),) * 9)):
            self.raises(InvalidScheme, None, Scheme, *good[:changes[0]], changes[1], *good[changes[0] + 1:])
        self.raises(InvalidScheme, None, Scheme, 5, 9, (1,) * 9, (2,) * 24, ((3, row + (0,)),), ())
        self.raises(InvalidScheme, None, Scheme, 5, 9, (1,) * 8, (2,) * 25, ((3, row + (0,)),), ())

    def test_great_schemes(self):
        told = random.Random(2)
        for field in (5, 997):
            scheme = Scheme(field, 9, tuple(told.randrange(1, 10) for _ in range(8)),
                            tuple(told.randrange(1, 10) for _ in range(24)),
                            tuple((told.randrange(1, 10), random_numbers(told, field, 33)) for _ in range(60)),
                            tuple((told.randrange(1, 10), random_numbers(told, field, 9)) for _ in range(8)))
            for lot in ((), (1,), (2, 5), (1, 2, 3, 4), (1, 2, 3, 4, 5, 6, 7, 8), tuple(range(1, 10))):
                self.is_true(is_parting(scheme, lot, parting(scheme, lot)))
            for index in range(8):
                self.is_true(is_recipe(scheme, index, recipe(scheme, index)))
            self.assertIn(least_parted(scheme, 9), [None] + lots_of(scheme))


class PartingTest(Case):

    def test_all_lots_against_counts(self):
        told = random.Random(3)
        found = {"even": 0, "parted": 0}
        for _ in range(240):
            scheme = random_scheme(told)
            first = None
            for lot in lots_of(scheme):
                counts = counts_by(scheme, lot)
                even = is_even_by(scheme, lot, counts)
                paper = parting(scheme, lot)
                self.assertEqual(paper[0], "even" if even else "parted")
                found[paper[0]] += 1
                self.accepts(is_parting, (scheme, lot), paper)
                if not even and first is None:
                    first = lot
                behind = set(many for table in counts.values() for many in table.values())
                self.same(behind.pop(), rows_behind, scheme, lot)
                self.assertFalse(behind)
            for most in range(scheme.houses + 1):
                right = first if first is not None and len(first) <= most else None
                self.same(right, least_parted, scheme, most)
        self.assertGreater(min(found.values()), 25)

    def is_shift(self, scheme, lot, move, shift):
        """Whether a shift leaves the letters of the lot as they are."""
        if any(coin for coin, owner in zip(shift, scheme.coins) if owner in lot):
            return False
        return all(dot(scheme.field, row[1:], move + shift) == 0 for house, row in scheme.letters if house in lot)

    def test_papers_of_others(self):
        """All shifts, all moves and all sums of small schemes."""
        told = random.Random(4)
        seen = {"even": 0, "parted": 0}
        for _ in range(120):
            scheme = random_scheme(told)
            for lot in lots_of(scheme)[1:]:
                basis = basis_by(scheme, lot)
                if len(basis) == 1:
                    for shift in all_rows(5, len(scheme.coins)):
                        right = self.is_shift(scheme, lot, basis[0], shift)
                        self.same(right, is_parting, scheme, lot, ("even", (shift,)))
                        seen["even"] += right
                self.all_sums(scheme, lot, seen)
        self.assertGreater(min(seen.values()), 30)

    def all_sums(self, scheme, lot, seen):
        """All moves and sums for a lot with few letters."""
        heard = [row for house, row in scheme.letters if house in lot]
        if not 0 < len(heard) < 3:
            return
        many = len(scheme.owners)
        others = [1 + many + place for place, owner in enumerate(scheme.coins) if owner not in lot]
        for move in all_rows(5, many):
            fit = not any(x for x, owner in zip(move, scheme.owners) if owner in lot)
            fit = fit and not any(dot(5, row[1:], move) for house, row in scheme.outputs if house in lot)
            for factors in all_rows(5, len(heard)):
                right = fit and not any(dot(5, factors, [row[place] for row in heard]) for place in others)
                right = right and dot(5, factors, [dot(5, row[1:1 + many], move) for row in heard]) == 1
                self.same(right, is_parting, scheme, lot, ("parted", move, factors))
                seen["parted"] += right

    def test_values(self):
        for scheme, lot in ((MASKED, (2,)), (OPEN, (2,)), (OPEN, (1,)), (MASKED, ())):
            self.judges(is_parting, (scheme, lot))
            self.judges(is_parting, (scheme, lot), [("even", odd) for odd in ODD if odd != ()])
            self.judges(is_parting, (scheme, lot), [("parted", odd, (1,)) for odd in ODD])
            self.judges(is_parting, (scheme, lot), [("parted", (1, 0), odd) for odd in ODD])
            self.judges(is_parting, (scheme, lot), [(), ("even",), ("parted",), ("parted", (1, 0)), ("parted", (1, 0), ()),
                                                    ("parted", (1, 0), (1,), ()), ("even", (), ())])
        told = Scheme(5, 2, (1,), (), ((2, (0, 1)),), ())
        self.accepts(is_parting, (told, (2,)), ("parted", (1,), (1,)))
        self.is_true(is_parting(told, (2,), ("parted", (2,), (3,))))
        self.is_false(is_parting(told, (2,), ("parted", (2,), (1,))))

    def test_not_true(self):
        # Even for both houses together, which know all, but not for the second one alone.
        both = Scheme(5, 2, (1, 1), (), ((2, (0, 1, 0)),), ())
        self.assertEqual([parting(both, (1, 2))[0], parting(both, (2,))[0]], ["even", "parted"])
        self.assertEqual([parting(OPEN, lot)[0] for lot in ((1,), (2,), (1, 2))], ["even"] * 3)


class RecipeTest(Case):

    def test_all_of_small_schemes(self):
        told = random.Random(5)
        found = {"told": 0, "hidden": 0}
        for _ in range(240):
            scheme = random_scheme(told)
            for index, (house, row) in enumerate(scheme.outputs):
                paper = recipe(scheme, index)
                found[paper[0]] += 1
                self.accepts(is_recipe, (scheme, index), paper)
                numbers = {}
                for secrets in all_rows(5, len(scheme.owners)):
                    for coins in all_rows(5, len(scheme.coins)):
                        seen = view_by(scheme, (house,), secrets, coins)
                        number = dot(5, row, (1,) + secrets)
                        numbers.setdefault(seen, set()).add(number)
                        if paper[0] == "told":
                            self.assertEqual((paper[1] + dot(5, paper[2], seen)) % 5, number)
                is_told = all(len(each) == 1 for each in numbers.values())
                self.assertEqual(paper[0] == "told", is_told)
        self.assertGreater(min(found.values()), 12)

    def test_papers_of_others(self):
        told = random.Random(6)
        found = 0
        for _ in range(120):
            scheme = random_scheme(told)
            many = len(scheme.owners) + len(scheme.coins)
            for index, (house, row) in enumerate(scheme.outputs):
                zero = view_by(scheme, (house,), (0,) * len(scheme.owners), (0,) * len(scheme.coins))
                for change in all_rows(5, many):
                    secrets, coins = change[:len(scheme.owners)], change[len(scheme.owners):]
                    right = view_by(scheme, (house,), secrets, coins) == zero and dot(5, row[1:], secrets) == 1
                    self.same(right, is_recipe, scheme, index, ("hidden", secrets, coins))
                    found += right
                if len(zero) < 3:
                    for number in range(5):
                        for factors in all_rows(5, len(zero)):
                            right = all((number + dot(5, factors, view_by(scheme, (house,), one[:len(scheme.owners)],
                                                                          one[len(scheme.owners):]))) % 5
                                        == dot(5, row, (1,) + one[:len(scheme.owners)])
                                        for one in [(0,) * many] + [
                                            tuple(int(k == place) for k in range(many)) for place in range(many)])
                            self.same(right, is_recipe, scheme, index, ("told", number, factors))
                            found += right
        self.assertGreater(found, 100)

    def test_values(self):
        hidden = Scheme(5, 2, (1, 2), (1,), ((2, (0, 1, 0, 1)),), ((2, (3, 1, 0)),))
        self.assertEqual(recipe(hidden, 0)[0], "hidden")
        for scheme in (OPEN, hidden):
            self.judges(is_recipe, (scheme, 0))
            self.judges(is_recipe, (scheme, 0), [("told", odd, (0, 1)) for odd in ODD] + [(), ("told", 5, (0, 1)), ("told", -5, (0, 1))])
            self.judges(is_recipe, (scheme, 0), [("told", 0, odd) for odd in ODD])
            self.judges(is_recipe, (scheme, 0), [("hidden", odd, (4,)) for odd in ODD])
            self.judges(is_recipe, (scheme, 0), [("hidden", (1, 0), odd) for odd in ODD])


class HallTest(Case):

    def test_against_runs(self):
        told = random.Random(7)
        for hall in (SMALL, LOOK5, Hall(7, 4, 1, "look")):
            for circuit in (SUM, LINEAR, PLAIN):
                if hall is LOOK5 and circuit is LINEAR:
                    continue
                scheme = scheme_of(hall, circuit)
                self.assertEqual([scheme.field, scheme.houses, scheme.owners], [7, hall.houses, circuit.houses])
                order = sorted(range(len(circuit.houses)), key=lambda place: (circuit.houses[place], place))
                self.assertEqual(scheme.coins, tuple(circuit.houses[place] for place in order for _ in range(hall.most)))
                for _ in range(4):
                    inputs, coins = random_parts(told, hall, circuit)
                    row = tuple(coin for house in hall.places for coin in coins[house])
                    for lot in [()] + [(house,) for house in hall.places]:
                        run = Run(hall, circuit, inputs, coins, lot=lot)
                        own = [number for _, number in run.view[0]] + [coin for _, row2 in run.view[1] for coin in row2]
                        heard = [number for _, letter in run.view[2] for number in letter]
                        # All letters of a lot of one house are to it, so that they have the sequence of its view.
                        self.same(tuple(own + heard), view, scheme, lot, inputs, row)
                    for house in hall.places:
                        right = tuple(number for number, (_, houses) in zip(circuit.told(7, inputs), circuit.outputs)
                                      if house in houses)
                        self.same(right, due, scheme, house, inputs)

    def test_letters_in_sequence(self):
        scheme = scheme_of(SMALL, LINEAR)
        self.assertEqual(scheme.coins, (1, 1, 2))
        rows = {2: {0: (0, 1, 0, 0, 0, 0, 1), 1: (0, 0, 1, 0, 1, 0, 0), 6: (0, 0, 0, 1, 0, 1, 0)}}

        def share(gate, house):
            row = rows[2][gate]
            return row[:4] + tuple(x * house % 7 for x in row[4:])
        dealt = [(2, share(1, 2)), (2, share(6, 2)), (3, share(1, 3)), (3, share(6, 3)), (1, share(0, 1)), (3, share(0, 3))]
        self.assertEqual(scheme.letters[:6], tuple(dealt))
        both = {house: tuple((x + y) % 7 for x, y in zip(share(0, house), share(1, house))) for house in (1, 2, 3)}
        long = {house: ((3,) + tuple(x * 4 % 7 for x in both[house][1:])) for house in (1, 2, 3)}
        last = [(2, share(6, 1)), (3, long[1]), (3, both[1]), (1, long[2]), (3, long[2]), (3, both[2]), (1, long[3]),
                (2, share(6, 3))]
        self.assertEqual(scheme.letters[6:], tuple(last))
        self.assertEqual(scheme.outputs, ((1, (3, 4, 4, 0)), (3, (3, 4, 4, 0)), (2, (0, 0, 0, 1)), (3, (0, 1, 1, 0))))

    def test_outputs_that_are_constants(self):
        circuit = Circuit((("input", 1), ("constant", 4), ("sum", 1, 1)), ((1, (2,)), (2, (3,)), (0, (3,))))
        scheme = scheme_of(SMALL, circuit)
        self.assertEqual(scheme.outputs, ((2, (4, 0)), (3, (1, 0)), (3, (0, 1))))
        self.assertEqual([row for house, row in scheme.letters if house == 2], [(0, 1, 2), (4, 0, 0), (4, 0, 0)])

    def test_even_for_all_lots(self):
        for hall, circuit in ((SMALL, SUM), (SMALL, LINEAR), (LOOK5, SUM), (LOOK5, PLAIN), (SMALL, PLAIN)):
            scheme = scheme_of(hall, circuit)
            self.assertIsNone(least_parted(scheme, hall.most))
            for index in range(len(scheme.outputs)):
                self.assertEqual(recipe(scheme, index)[0], "told")
        one = Circuit((("input", 1),), ((0, (1,)),))
        self.assertEqual(least_parted(scheme_of(SMALL, one), 3), (2, 3))
        self.assertIsNone(least_parted(scheme_of(SMALL, one), 1))

    def test_refused(self):
        self.refuses(scheme_of, (SMALL, SUM), ((InvalidHall, WRONG_HALLS), (InvalidCircuit, WRONG_CIRCUITS)))
        for hall, circuit in ((LARGE, SUM), (SMALL, PRODUCT), (SMALL, BARE), (SMALL, Circuit((("constant", 1),), ((0, (1,)),))),
                              (LARGE, PRODUCT)):
            self.raises(InvalidOperation, None, scheme_of, hall, circuit)
        # Thirty-two coins; sixty-four letters; nine outputs.
        eight = Circuit(tuple(("input", house) for house in range(1, 9)), ((0, (1,)),))
        self.raises(InvalidScheme, None, scheme_of, WIDEST, eight)
        self.raises(InvalidScheme, None, scheme_of, Hall(11, 9, 1, "look"), eight)
        nine = Circuit((("input", 1),), ((0, (1, 2, 3)),) * 3)
        self.raises(InvalidScheme, None, scheme_of, SMALL, nine)
        self.assertEqual(len(scheme_of(SMALL, Circuit((("input", 1),), ((0, (1, 2)),) * 4)).outputs), 8)
        six = Circuit(tuple(("input", 1) for _ in range(6)), ((0, (1,)),))
        self.assertEqual(len(scheme_of(WIDEST, six).coins), 24)
        self.raises(InvalidScheme, None, scheme_of, WIDEST, Circuit(six.gates + (("input", 1),), six.outputs))


class RefusalsTest(Case):

    HOUSES = (None, 1, "12", [1, 2], (0, 1), (1, 3), (True, 1), (1, None), (1, "2"), {1: 1}, LARGE, LONG, (LONG,))

    def test_schemes(self):
        parts = (5, 2, (1, 2), (1,), ((2, (0, 1, 0, 1)),), ((1, (0, 1, 2)),))
        def pairs(row):
            return (None, 1, "1", [], {}, LARGE, (None,), (1,), ([1, row],), ((1, row, 1),), ((0, row),), ((3, row),),
                    ((True, row),), ((None, row),), ((1, list(row)),), ((1, row[1:]),), ((1, row + (0,)),), ((1, None),),
                    ((1, row[:-1] + (5,)),), ((1, row[:-1] + (-1,)),), ((1, row[:-1] + (True,)),), ((1, row), (1, ())))
        self.refuses(Scheme, parts, (
            (InvalidNumber, WRONG_FIELDS), (InvalidNumber, ()), (InvalidScheme, self.HOUSES + ((),)),
            (InvalidScheme, self.HOUSES), (InvalidScheme, pairs((0, 1, 0, 1))), (InvalidScheme, pairs((0, 1, 2)))))
        for houses in wrong_numbers(1, 9):
            self.raises(InvalidNumber, houses, Scheme, 5, houses, *parts[2:])
            self.raises(InvalidNumber, 4, Scheme, 4, houses, None, None, None, None)
            self.raises(InvalidNumber, houses, Scheme, 5, houses, None, None, None, None)
        self.assertEqual(Scheme(5, 9, (9,), (), (), ()).houses, 9)

    def test_functions(self):
        schemes = (InvalidScheme, (None, 1, "", (), [], {}, SMALL, PRODUCT, (OPEN,), (5, 2, (1, 2), (), (), ()), LONG))
        lots = (InvalidLot, (None, 1, "1", [1], (0,), (3,), (2, 1), (1, 1), (True,), (None,), {1: 1}, LARGE, LONG, ("1",)))
        numbers = (InvalidInputs, wrong_rows(5, 2) + ((), (1,), (1, 2, 3)))
        self.refuses(view, (MASKED, (1, 2), (3, 4), (1,)), (
            schemes, lots, numbers, (InvalidCoins, wrong_rows(5, 1) + ((), (1, 2)))))
        self.refuses(due, (OPEN, 2, (3, 4)), (schemes, (InvalidNumber, wrong_numbers(1, 2)), numbers))
        self.refuses(parting, (OPEN, (1, 2)), (schemes, lots))
        self.refuses(rows_behind, (OPEN, ()), (schemes, lots))
        self.refuses(is_parting, (OPEN, (1,), None), (schemes, lots, (None, ())))
        self.refuses(least_parted, (OPEN, 2), (schemes, (InvalidNumber, wrong_numbers(0, 2))))
        self.refuses(recipe, (OPEN, 0), (schemes, (InvalidNumber, wrong_numbers(0, 0))))
        self.refuses(is_recipe, (OPEN, 0, None), (schemes, (InvalidNumber, wrong_numbers(0, 0)), (None, ())))
        for index in (0, 1, -1, None):
            self.raises(InvalidNumber, index, recipe, MASKED, index)
