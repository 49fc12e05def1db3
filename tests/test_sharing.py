"""Stage 5: sharing by one letter."""

from itertools import combinations

from evencoins.codes.sharing import (
    changed_coins, dealt, is_sharing_paper, is_sum_paper, opened, sharing_paper, sum_paper, told_count,
)
from evencoins.errors import InvalidCoins, InvalidLot, InvalidNumber, InvalidWord, Refused
from tests.helper import WRONG_FIELDS, Case, all_rows, dot, hiding_row, trim, value, wrong_numbers, wrong_rows

FIELD = (InvalidNumber, WRONG_FIELDS)
NUMBER = (InvalidNumber, wrong_numbers(0, 6))
HOUSES = (InvalidNumber, wrong_numbers(1, 6) + (9, 10))
MOST = (InvalidNumber, wrong_numbers(0, 8))
LOT = (InvalidLot, (
    [1], (0,), (-1,), (7,), (1, 7), (0, 1), (True,), (True, 2), (False,), (None,), ("1",), ((1,),), (2, 1), (1, 1),
    (1, 2, 2), (1, 3, 2), None, True, 1, "1", "", {}, {1: 2}, [], (10 ** 60,),
))


def shares_of(field, poly, houses):
    """The values of a poly at the first houses."""
    return tuple(value(field, poly, house) for house in range(1, houses + 1))


def lots(field, most):
    """All lots of places of the field with at most so many."""
    return [lot for many in range(most + 1) for lot in combinations(range(1, field), many)]


class ExamplesTest(Case):

    def test_examples(self):
        self.assertEqual(
            [dealt(7, 3, 2, (3,)), opened(7, (5, 1, 4), 1), sharing_paper(7, (5, 1, 4), 1),
             sharing_paper(7, (5, 1, 3), 1)],
            [(5, 1, 4), 2, ("coins", 2, (3,)), ("apart", 3)])
        self.assertEqual(
            [changed_coins(7, (2,), (3,), 2, 6), told_count(7, 2, (2,), (1,), 6), sum_paper(7, 1, (1, 2), (1,)),
             sum_paper(7, 1, (2,), (1,))],
            [(1,), 7, ("told", (2, 6)), ("open", (1, 3))])


class SharingTest(Case):

    def test_dealt(self):
        for houses in range(1, 5):
            for most in range(min(houses, 3)):
                for coins in all_rows(5, most):
                    for number in range(5):
                        self.assertEqual(dealt(5, houses, number, coins), shares_of(5, (number,) + coins, houses))
        coins = (1, 996, 0, 5, 7, 0, 0, 3)
        self.assertEqual(dealt(997, 9, 4, coins), shares_of(997, (4,) + coins, 9))
        self.assertEqual([dealt(11, 9, 4, ()), dealt(5, 1, 3, ()), dealt(7, 6, 0, (0,) * 5)],
                         [(4,) * 9, (3,), (0,) * 6])

    def test_opened(self):
        for most in range(3):
            for coins in all_rows(5, most):
                for number in range(5):
                    for houses in range(most + 1, 5):
                        shares = dealt(5, houses, number, coins)
                        self.assertEqual(opened(5, shares, most), number)
                        self.assertEqual(opened(5, shares[:most + 1] + (3,) * (houses - most - 1), most), number)
        self.assertEqual([opened(5, (3,), 0), opened(5, (3, 1, 2, 4), 0)], [3, 3])
        self.assertEqual(opened(997, dealt(997, 9, 500, (1, 2, 3, 4, 5, 6, 7, 8)), 8), 500)

    def test_papers(self):
        for houses in range(1, 5):
            for shares in all_rows(5, houses)[::1 if houses < 4 else 3]:
                for most in range(houses):
                    self.has_paper(5, shares, most)

    def has_paper(self, field, shares, most):
        number = opened(field, shares, most)
        coins = [row for row in all_rows(field, most)
                 if shares_of(field, (number,) + row, most + 1) == shares[:most + 1]]
        self.assertEqual(len(coins), 1)
        right = shares_of(field, (number,) + coins[0], len(shares))
        apart = [k + 1 for k, (x, y) in enumerate(zip(shares, right)) if x != y]
        paper = ("apart", apart[0]) if apart else ("coins", number, coins[0])
        self.assertEqual(sharing_paper(field, shares, most), paper)
        self.is_true(is_sharing_paper(field, shares, most, paper))
        if apart:
            self.is_false(is_sharing_paper(field, shares, most, ("coins", number, coins[0])))
            for place in range(len(shares) + 2):
                self.assertIs(is_sharing_paper(field, shares, most, ("apart", place)), place == apart[0])

    def test_nothing_else(self):
        self.accepts(is_sharing_paper, (7, (5, 1, 4), 1), ("coins", 2, (3,)))
        self.accepts(is_sharing_paper, (7, (1, 1, 1), 1), ("coins", 1, (0,)))
        self.accepts(is_sharing_paper, (7, (2, 2, 1), 2), ("coins", 1, (5, 3)))
        self.accepts(is_sharing_paper, (7, (0, 1, 2), 2), ("coins", 6, (1, 0)))
        self.accepts(is_sharing_paper, (7, (0,), 0), ("coins", 0, ()))
        self.accepts(is_sharing_paper, (7, (5, 1, 3), 1), ("apart", 3))
        for shares, most in (((5, 1, 4), 1), ((5, 1, 3), 1), ((1,), 0)):
            self.judges(is_sharing_paper, (7, shares, most))
        self.is_false(is_sharing_paper(7, (1, 1, 1), 1, ("coins", 1, ())))
        self.is_false(is_sharing_paper(7, (1, 1, 1), 1, ("coins", 1)))
        self.is_false(is_sharing_paper(7, (1, 1, 1), 1, ("apart", 1)))

    def test_sums_of_sharings(self):
        for one in all_rows(5, 2)[::3]:
            for other in all_rows(5, 2)[::4]:
                shares = [dealt(5, 4, row[0], row[1:]) for row in (one, other)]
                both = tuple((x + y) % 5 for x, y in zip(*shares))
                self.assertEqual(sharing_paper(5, both, 1),
                                 ("coins", (one[0] + other[0]) % 5, ((one[1] + other[1]) % 5,)))
                product = tuple(x * y % 5 for x, y in zip(*shares))
                self.assertEqual(sharing_paper(5, product, 2)[:2], ("coins", one[0] * other[0] % 5))


class LotsTest(Case):

    def test_counts(self):
        for most in range(4):
            rows = all_rows(5, most)
            for lot in lots(5, 4):
                seen = {}
                for number in (0, 3):
                    for coins in rows:
                        told = tuple(value(5, (number,) + coins, place) for place in lot)
                        seen[told, number] = seen.get((told, number), 0) + 1
                for told in all_rows(5, len(lot))[::1 if len(lot) < 3 else 6]:
                    for number in (0, 3):
                        self.assertEqual(told_count(5, most, lot, told, number), seen.get((told, number), 0))

    def test_counts_of_seen_shares(self):
        for most in range(3):
            for coins in all_rows(5, most):
                for lot in lots(5, 4):
                    told = tuple(value(5, (2,) + coins, place) for place in lot)
                    self.assertEqual(told_count(5, most, lot, told, 2), 5 ** max(0, most - len(lot)))

    def test_great_counts(self):
        self.assertEqual(told_count(997, 8, (), (), 0), 997 ** 8)
        self.assertEqual(told_count(997, 8, (996,), (5,), 996), 997 ** 7)
        self.assertEqual(told_count(5, 8, (1, 2, 3, 4), (0, 1, 2, 3), 4), 5 ** 4)
        self.assertEqual(told_count(11, 8, tuple(range(1, 9)), (7,) * 8, 7), 1)
        self.assertEqual(told_count(11, 8, tuple(range(1, 10)), (7,) * 9, 7), 1)
        self.assertEqual(told_count(11, 8, tuple(range(1, 10)), (7,) * 9, 6), 0)
        self.assertEqual([told_count(5, 0, (), (), 3), told_count(5, 0, (2,), (3,), 3)], [1, 1])
        self.assertEqual(told_count(5, 0, (2,), (4,), 3), 0)

    def test_exchange(self):
        for most in range(4):
            for lot in lots(5, most):
                row = hiding_row(5, lot, most + 1)
                for coins in all_rows(5, most)[::1 if most < 3 else 7]:
                    for number, other in ((0, 0), (0, 1), (4, 2), (3, 4)):
                        found = changed_coins(5, lot, coins, number, other)
                        self.assertEqual(found, tuple(
                            (c + (other - number) * x) % 5 for c, x in zip(coins, row[1:])))
                        for place in lot:
                            self.assertEqual(value(5, (number,) + coins, place), value(5, (other,) + found, place))
                        self.assertEqual(changed_coins(5, lot, found, other, number), coins)

    def test_exchange_edges(self):
        self.assertEqual(changed_coins(5, (), (), 3, 1), ())
        self.assertEqual(changed_coins(5, (), (1, 2), 3, 1), (1, 2))
        self.assertEqual(changed_coins(997, (1, 996), (3,) * 8, 0, 1), (3, 2, 3, 3, 3, 3, 3, 3))
        self.raises(Refused, ("wide",), changed_coins, 5, (1,), (), 3, 1)
        self.raises(Refused, ("wide",), changed_coins, 11, tuple(range(1, 10)), (1,) * 8, 3, 3)
        row = hiding_row(11, range(1, 9), 9)
        self.assertEqual(changed_coins(11, tuple(range(1, 9)), (0,) * 8, 0, 1), row[1:])


class SumsTest(Case):

    def is_told(self, field, most, lot, factors, row):
        sums = [[dot(field, one, [place ** k for place in places]) for k in range(most + 1)]
                for one, places in ((factors, range(len(factors))), (row, lot))]
        return sums[0] == sums[1]

    def is_open(self, field, lot, factors, row):
        made = dot(field, factors, [value(field, row, place) for place in range(len(factors))])
        return made == 1 and not any(value(field, row, place) for place in lot)

    def test_every_paper(self):
        for most in range(3):
            rows = all_rows(5, most + 1)
            for lot in lots(5, 3):
                for factors in ((0,), (1,), (2, 1), (0, 3), (1, 4, 2), (1, 1, 1, 1, 1), (0, 0, 0, 0, 2),
                                (1, 3, 1, 0, 0)):
                    arguments = (5, most, lot, factors)
                    told = [row for row in all_rows(5, len(lot)) if self.is_told(5, most, lot, factors, row)]
                    seen = [row for row in rows if self.is_open(5, lot, factors, row)]
                    self.assertNotEqual(bool(told), bool(seen))
                    self.are_papers(arguments, "told", all_rows(5, len(lot)), told)
                    self.are_papers(arguments, "open", sorted(set(map(trim, rows))), list(map(trim, seen)))
                    paper = sum_paper(*arguments)
                    self.assertIn(paper, [("told", row) for row in told] + [("open", trim(row)) for row in seen])

    def are_papers(self, arguments, word, rows, right):
        for row in rows:
            self.assertIs(is_sum_paper(*arguments, (word, row)), row in right)

    def test_greater_fields(self):
        for lot, factors in (((), (0, 0)), ((1, 2, 3), (1,)), ((1, 2), (1,)), ((990, 996), (0, 1, 2)), ((), (5,)),
                             (tuple(range(1, 10)), (1,) * 10), ((1, 2, 3), (0, 1, 2, 3))):
            for most in (0, 1, 2, 5, 8):
                paper = sum_paper(997, most, lot, factors)
                right = self.is_told if paper[0] == "told" else (lambda p, t, k, a, row: self.is_open(p, k, a, row))
                self.assertTrue(right(997, most, lot, factors, paper[1]))
                self.is_true(is_sum_paper(997, most, lot, factors, paper))
                self.assertLessEqual(len(paper[1]), len(lot) if paper[0] == "told" else most + 1)

    def test_edges(self):
        self.assertEqual(sum_paper(5, 8, (1, 2), (0, 2, 3)), ("told", (2, 3)))
        self.assertEqual(sum_paper(5, 0, (), (1, 4)), ("told", ()))
        self.assertEqual(sum_paper(5, 0, (), (2,)), ("open", (3,)))
        self.assertEqual(sum_paper(5, 8, (1, 2, 3, 4), (1, 0, 0, 0, 0))[0], "open")
        self.assertEqual(sum_paper(5, 3, (1, 2, 3, 4), (1, 0, 0, 0, 0)), ("told", (4, 4, 4, 4)))
        self.is_true(is_sum_paper(7, 1, (1, 2, 3), (1,), ("told", (2, 6, 0))))
        self.is_true(is_sum_paper(7, 1, (1, 2, 3), (1,), ("told", (3, 4, 1))))
        self.is_false(is_sum_paper(7, 2, (1, 2, 3), (1,), ("told", (2, 6, 0))))
        self.is_true(is_sum_paper(7, 2, (2,), (1,), ("open", (1, 0, 5))))
        self.is_false(is_sum_paper(7, 1, (2,), (1,), ("open", (1, 0, 5))))

    def test_nothing_else(self):
        self.accepts(is_sum_paper, (7, 1, (1, 2), (1,)), ("told", (2, 6)))
        self.accepts(is_sum_paper, (7, 1, (1, 2), (0, 1)), ("told", (1, 0)))
        self.accepts(is_sum_paper, (7, 1, (2,), (1,)), ("open", (1, 3)))
        self.accepts(is_sum_paper, (7, 2, (2,), (1,)), ("open", (1, 0, 5)))
        self.accepts(is_sum_paper, (7, 1, (), (0,)), ("told", ()))
        self.accepts(is_sum_paper, (7, 1, (), (1,)), ("open", (1,)))
        for lot, factors in (((1, 2), (1,)), ((2,), (1,)), ((), (0,)), ((), (1,))):
            self.judges(is_sum_paper, (7, 1, lot, factors))
        self.is_false(is_sum_paper(7, 1, (), (1,), ("open", (1, 0))))

    def test_not_in_one_way_alone(self):
        self.is_true(is_sum_paper(5, 0, (1, 2), (1,), ("told", (1, 0))))
        self.is_true(is_sum_paper(5, 0, (1, 2), (1,), ("told", (0, 1))))


class RefusalsTest(Case):

    def test_dealt(self):
        coins = (InvalidCoins, wrong_rows(7, 2) + ((1, 2, 3, 4), (1,) * 9))
        self.refuses(dealt, (7, 4, 3, (1, 2, 3)), (FIELD, HOUSES, NUMBER, coins))
        for houses in range(1, 7):
            self.assertEqual(len(dealt(7, houses, 3, (0,) * (houses - 1))), houses)
            self.raises(InvalidCoins, None, dealt, 7, houses, 3, (0,) * houses)
        for field, houses in ((5, 5), (7, 7), (11, 10), (997, 10), (997, 0)):
            self.raises(InvalidNumber, houses, dealt, field, houses, 1, ())

    def test_shares(self):
        shares = (InvalidWord, wrong_rows(7, 3) + ((), (1,) * 7, (1,) * 10))
        most = (InvalidNumber, wrong_numbers(0, 2) + (9,))
        for function in (opened, sharing_paper, lambda *three: is_sharing_paper(*three, ("coins", 1, ())),
                         lambda *three: is_sharing_paper(*three, None)):
            self.refuses(function, (7, (5, 1, 4), 2), (FIELD, shares, most))
            for many in range(1, 10):
                function(11, (1,) * many, many - 1)
                self.raises(InvalidNumber, many, function, 11, (1,) * many, many)
            self.raises(InvalidWord, None, function, 11, (1,) * 10, 0)
            self.raises(InvalidWord, None, function, 5, (1,) * 5, 0)
            function(5, (1,) * 4, 0)

    def test_told_count(self):
        told = (InvalidWord, wrong_rows(7, 2) + ((), (1,), (1, 2, 3)))
        self.refuses(told_count, (7, 8, (1, 6), (1, 2), 3), (FIELD, MOST, LOT, told, NUMBER))
        ten = tuple(range(1, 11))
        self.raises(InvalidLot, None, told_count, 997, 8, ten, (1,) * 10, 3)
        self.assertEqual(told_count(997, 8, ten[:9], (3,) * 9, 3), 1)
        self.raises(InvalidLot, None, told_count, 11, 0, (11,), (1,), 3)
        self.raises(InvalidWord, None, told_count, 7, 0, (), (1,), 3)

    def test_changed_coins(self):
        coins = (InvalidCoins, wrong_rows(7, 2) + ((1,) * 9,))
        self.refuses(changed_coins, (7, (1, 6), (1, 2), 3, 4), (FIELD, LOT, coins, NUMBER, NUMBER), [
            (Refused, ("wide",), (7, (1, 2, 3), (1, 2), 3, 4)), (Refused, ("wide",), (7, (1,), (), 3, 3))])
        self.raises(InvalidLot, None, changed_coins, 997, tuple(range(1, 11)), (1,), 3, 4)

    def test_sums(self):
        factors = (InvalidWord, wrong_rows(7, 2) + ((), (1,) * 8, (1,) * 10, (1,) * 11))
        for function in (sum_paper, lambda *four: is_sum_paper(*four, ("told", (1, 2))),
                         lambda *four: is_sum_paper(*four, [])):
            self.refuses(function, (7, 1, (1, 2), (1,)), (FIELD, MOST, LOT, factors))
            self.raises(InvalidLot, None, function, 997, 8, tuple(range(1, 11)), (1,))
            for field, many in ((5, 5), (7, 7), (11, 10), (997, 10)):
                function(field, 8, (1,), (1,) * many)
                self.raises(InvalidWord, None, function, field, 8, (1,), (1,) * (many + 1))
