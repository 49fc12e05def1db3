"""Stage 21: watches that last."""

import random
from itertools import product

from evencoins.errors import (
    InvalidCoins, InvalidHall, InvalidLot, InvalidNumber, InvalidWatch, InvalidWord, Refused, TooMany,
)
from evencoins.talk.halls import Hall
from evencoins.watch.watches import Watch, exchanged, is_exchange, numbers_told, seen, widths
from tests.helper import (
    LARGE, LONG, ODD, PRODUCT, SMALL, WRONG_HALLS, Case, nested, value, wrong_numbers, wrong_rows,
)
from tests.talks import LOOK5, LOOK7, random_numbers, value_through
from tests.test_halls import WIDEST

HALLS = (SMALL, LOOK5, LOOK7, Hall(5, 4, 1, "look"), WIDEST)
LATER = Watch(SMALL, (2,), ((3,),)).refreshed((((1,),), ((0,),), ((2,),)))
FOE = (((1,), (2,)), ((2,), ()))


def rows_of(told, hall, houses, many):
    """For each house, and in it for each number, a row of coins."""
    return tuple(tuple(random_numbers(told, hall.field, hall.most) for _ in range(many)) for _ in range(houses))


def random_watch(told, hall, acts, many=None):
    """A watch with so many acts."""
    many = many or told.randrange(1, 5)
    watch = Watch(hall, random_numbers(told, hall.field, many), rows_of(told, hall, 1, many)[0])
    for _ in range(acts):
        if told.randrange(2):
            watch = watch.refreshed(rows_of(told, hall, hall.houses, many))
        else:
            watch = watch.mended(told.choice(hall.places), rows_of(told, hall, hall.houses - 1, many))
    return watch


def random_foe(told, hall, epochs, widest):
    """A foe that sees at most so many houses of each kind."""
    pairs = [tuple(tuple(sorted(told.sample(hall.places, told.randrange(widest + 1)))) for _ in range(2))
             for _ in range(epochs)]
    return tuple(pairs[:-1]) + ((pairs[-1][0], ()),)


def union(foe, epoch):
    """All houses whose shares are seen in an epoch."""
    found = set(foe[epoch][0]) | set(foe[epoch][1])
    return sorted(found | set(foe[epoch - 1][1] if epoch else ()))


class Model:
    """The polys of a watch, epoch by epoch, and all that is dealt."""

    def __init__(self, hall, numbers, coins):
        self.hall = hall
        self.polys = [[(number,) + row for number, row in zip(numbers, coins)]]
        self.dealt = []

    def act(self, act):
        p, epoch = self.hall.field, len(self.polys) - 1
        if act[0] == "refresh":
            polys = {house: [(0,) + row for row in rows] for house, rows in zip(self.hall.places, act[1])}
            now = [tuple((x + sum(polys[house][k][at] for house in polys)) % p for at, x in enumerate(poly))
                   for k, poly in enumerate(self.polys[-1])]
            self.polys.append(now)
        else:
            others = [house for house in self.hall.places if house != act[1]]
            # (x - i) times the row.
            polys = {house: [tuple((a - act[1] * b) % p for a, b in zip((0,) + row, row + (0,))) for row in rows]
                     for house, rows in zip(others, act[2])}
        rows = dict(zip(polys, act[-1]))
        self.dealt.append((epoch, act, polys, rows))

    def share(self, epoch, house, k):
        return value(self.hall.field, self.polys[epoch][k], house)

    def seen(self, foe):
        """All that a foe sees."""
        found = {("share", e, j, k): self.share(e, j, k) for e in range(len(foe)) for j in union(foe, e)
                 for k in range(len(self.polys[0]))}
        p = self.hall.field
        for a, (epoch, act, polys, rows) in enumerate(self.dealt):
            watching = foe[epoch][1] if act[0] == "refresh" else [j for j in foe[epoch][0] if j != act[1]]
            for k in range(len(self.polys[0])):
                for j in watching:
                    found["coins", a, j, k] = rows[j][k]
                    for i in polys:
                        found["piece", a, i, j, k] = value(p, polys[i][k], j)
                if act[0] == "mend" and act[1] in foe[epoch][0]:
                    for i in polys:
                        found["sum", a, i, k] = (self.share(epoch, i, k) + sum(value(p, polys[d][k], i) for d in polys)) % p
        return {key: found[key] for key in sorted(found)}


def model_of(watch):
    model = Model(watch.hall, watch.numbers, watch.coins)
    for act in watch.acts:
        model.act(act)
    return model


class ExamplesTest(Case):

    def test_examples(self):
        self.assertEqual([LATER.shares, widths(SMALL, FOE), numbers_told(LATER, FOE)], [((1, 0, 6),), (2, 1), (2,)])


class WatchTest(Case):

    def test_shares(self):
        told = random.Random(1)
        for hall in HALLS:
            for acts in (0, 1, 3, 6):
                watch = random_watch(told, hall, acts)
                model = model_of(watch)
                self.assertEqual(watch.epoch, len(model.polys) - 1)
                self.assertEqual(watch.shares, tuple(
                    tuple(model.share(watch.epoch, house, k) for house in hall.places) for k in range(len(watch.numbers))))
                for k, number in enumerate(watch.numbers):
                    points = list(zip(hall.places, watch.shares[k]))
                    self.assertEqual(value_through(hall.field, points[-hall.most - 1:], 0), number)
                    self.assertEqual(value_through(hall.field, points[:hall.most + 1], 0), number)

    def test_mending_tells_the_lost_share(self):
        told = random.Random(2)
        for hall in HALLS:
            watch = random_watch(told, hall, 2, 2)
            for house in hall.places:
                mended = watch.mended(house, rows_of(told, hall, hall.houses - 1, 2))
                self.assertEqual([mended.shares, mended.epoch], [watch.shares, watch.epoch])
                foe = (((), ()),) * watch.epoch + (((house,), ()),)
                table = seen(mended, foe)
                for k in range(2):
                    points = [(i, table["sum", 2, i, k]) for i in hall.places if i != house]
                    self.assertEqual(value_through(hall.field, points[:hall.most + 1], house), watch.shares[k][house - 1])
                    self.assertEqual(value_through(hall.field, points[-hall.most - 1:], house), watch.shares[k][house - 1])

    def test_acts(self):
        told = random.Random(3)
        refresh, mend = rows_of(told, SMALL, 3, 1), rows_of(told, SMALL, 2, 1)
        first = Watch(SMALL, (2,), ((3,),))
        watch = first.refreshed(refresh).mended(2, mend).refreshed(refresh)
        self.assertEqual(watch.acts, (("refresh", refresh), ("mend", 2, mend), ("refresh", refresh)))
        self.assertEqual([first.acts, first.epoch, first.shares], [(), 0, ((5, 1, 4),)])
        self.assertEqual([watch.epoch, watch.hall, watch.numbers, watch.coins], [2, SMALL, (2,), ((3,),)])
        self.assertEqual([str(watch), str(first), str(Watch(SMALL, (1, 2, 3), ((1,),) * 3))],
                         ["watch of 1 numbers in epoch 2", "watch of 1 numbers in epoch 0", "watch of 3 numbers in epoch 0"])

    def test_equal(self):
        refresh, mend = (((1,),), ((0,),), ((2,),)), (((1,),), ((0,),))
        makers = [
            lambda: Watch(SMALL, (2,), ((3,),)), lambda: Watch(SMALL, (3,), ((3,),)), lambda: Watch(SMALL, (2,), ((4,),)),
            lambda: Watch(Hall(11, 3, 1, "look"), (2,), ((3,),)), lambda: Watch(SMALL, (2, 2), ((3,), (3,))),
            lambda: Watch(SMALL, (2,), ((3,),)).refreshed(refresh), lambda: Watch(SMALL, (2,), ((3,),)).mended(1, mend),
            lambda: Watch(SMALL, (2,), ((3,),)).mended(2, mend), lambda: Watch(SMALL, (2,), ((3,),)).mended(1, mend[::-1]),
            lambda: Watch(SMALL, (2,), ((3,),)).refreshed(refresh).mended(1, mend),
            lambda: Watch(SMALL, (2,), ((3,),)).mended(1, mend).refreshed(refresh),
            # Equal shares, and unlike acts.
            lambda: Watch(SMALL, (2,), ((3,),)).refreshed((((0,),),) * 3),
        ]
        for one, maker in enumerate(makers):
            for other, maker2 in enumerate(makers):
                self.assertIs(maker() == maker2(), one == other)
                self.assertIs(maker() != maker2(), one != other)
        for odd in ODD + (SMALL, (LATER,)):
            self.is_false(LATER == odd)
            self.is_true(LATER != odd)
            self.is_false(odd == LATER)
        self.assertNotIn(LATER, ODD)
        with self.assertRaises(TypeError):
            iter(LATER)
        for name in ("hall", "numbers", "coins", "epoch", "shares", "acts"):
            with self.assertRaises(AttributeError):
                setattr(LATER, name, getattr(LATER, name))

    def test_twelve_acts(self):
        told = random.Random(4)
        for hall in (SMALL, LOOK5):
            watch = random_watch(told, hall, 12, 2)
            refresh, mend = rows_of(told, hall, hall.houses, 2), rows_of(told, hall, hall.houses - 1, 2)
            before = (watch.acts, watch.shares, watch.epoch)
            self.raises(TooMany, 12, watch.refreshed, refresh)
            self.raises(TooMany, 12, watch.mended, 1, mend)
            self.raises(InvalidCoins, None, watch.refreshed, mend)
            self.raises(InvalidNumber, 0, watch.mended, 0, mend)
            self.raises(InvalidCoins, None, watch.mended, 1, refresh)
            self.assertEqual((watch.acts, watch.shares, watch.epoch), before)
            foe = random_foe(told, hall, watch.epoch + 1, 1)
            self.same(model_of(watch).seen(foe), seen, watch, foe)


class SeenTest(Case):

    def test_seen(self):
        told = random.Random(5)
        for hall in HALLS:
            for acts in (0, 1, 2, 5):
                for widest in (1, hall.most, hall.houses):
                    watch = random_watch(told, hall, acts)
                    foe = random_foe(told, hall, watch.epoch + 1, widest)
                    self.same(model_of(watch).seen(foe), seen, watch, foe)
                    self.same(tuple(len(union(foe, e)) for e in range(len(foe))), widths, hall, foe)

    def test_piece_by_piece(self):
        mended = LATER.mended(3, (((4,),), ((5,),)))
        self.assertEqual(seen(mended, FOE), {
            ("coins", 0, 2, 0): (0,), ("coins", 1, 2, 0): (5,), ("piece", 0, 1, 2, 0): 2, ("piece", 0, 2, 2, 0): 0,
            ("piece", 0, 3, 2, 0): 4, ("piece", 1, 1, 2, 0): 3, ("piece", 1, 2, 2, 0): 2, ("share", 0, 1, 0): 5,
            ("share", 0, 2, 0): 1, ("share", 1, 2, 0): 0})
        table = seen(mended, (((), ()), ((3,), ())))
        self.assertEqual(table, {("share", 1, 3, 0): 6, ("sum", 1, 1, 0): (1 + 9 * -2) % 7, ("sum", 1, 2, 0): -9 % 7})
        self.assertEqual(seen(mended, (((), ()), ((), ()))), {})

    def test_thirteen_epochs(self):
        pair = ((1, 2), (3,))
        self.assertEqual(widths(SMALL, (pair,) * 12 + (((1,), ()),)), (3,) * 12 + (2,))
        self.raises(InvalidLot, None, widths, SMALL, (pair,) * 13 + (((1,), ()),))
        self.assertEqual(widths(SMALL, (((), ()),)), (0,))
        self.raises(InvalidLot, None, widths, SMALL, ())
        self.raises(InvalidLot, None, widths, SMALL, (pair,))

    def test_numbers_told(self):
        told = random.Random(6)
        found = {True: 0, False: 0}
        for hall in HALLS:
            for _ in range(25):
                watch = random_watch(told, hall, told.randrange(5))
                foe = random_foe(told, hall, watch.epoch + 1, told.randrange(1, hall.most + 2))
                is_told = any(len(union(foe, e)) > hall.most for e in range(len(foe)))
                found[is_told] += 1
                if is_told:
                    self.same(watch.numbers, numbers_told, watch, foe)
                else:
                    self.raises(Refused, ("even",), numbers_told, watch, foe)
        self.assertGreater(min(found.values()), 20)

    def all_watches(self, hall, numbers, acts):
        """All watches of a hall with one coin each, with acts of these words and houses."""
        sizes = [1] + [hall.houses if act is None else hall.houses - 1 for act in acts]
        for row in product(range(hall.field), repeat=sum(sizes)):
            left = list(row)
            watch = Watch(hall, numbers, ((left.pop(0),),))
            for act, size in zip(acts, sizes[1:]):
                coins = tuple(((left.pop(0),),) for _ in range(size))
                watch = watch.refreshed(coins) if act is None else watch.mended(act, coins)
            yield watch

    def test_counts_of_all_rows(self):
        """[21.4] What is seen comes from equally many rows, or tells the numbers."""
        hall = Hall(5, 3, 1, "look")
        for acts, foe in (([None], (((1,), ()), ((2,), ()))), ([None], (((1,), (1,)), ((1,), ()))),
                          ([None], (((1,), (2,)), ((2,), ()))), ([2], (((2,), ()),)), ([2], (((1,), ()),)),
                          ([None], (((), (3,)), ((3,), ()))), ([3], (((1, 3), ()),))):
            counts = []
            for number in (0, 3):
                table = {}
                for watch in self.all_watches(hall, (number,), acts):
                    key = tuple(seen(watch, foe).items())
                    table[key] = table.get(key, 0) + 1
                counts.append(table)
            if max(widths(hall, foe)) <= 1:
                self.assertEqual(counts[0], counts[1])
                self.assertEqual(len(set(counts[0].values())), 1)
            else:
                self.assertFalse(set(counts[0]) & set(counts[1]))

    def test_not_true(self):
        # One house in each epoch, and another one in the refresh: two shares of one epoch.
        self.assertEqual(numbers_told(LATER, FOE), (2,))
        self.assertEqual([len(houses) for pair in FOE for houses in pair], [1, 1, 1, 0])


class ExchangeTest(Case):

    def narrow(self, told, watch):
        """A foe of a watch with no width above the most."""
        hall = watch.hall
        while True:
            foe = random_foe(told, hall, watch.epoch + 1, told.randrange(hall.most + 1))
            if max(widths(hall, foe)) <= hall.most:
                return foe

    def test_exchange(self):
        told = random.Random(7)
        for hall in HALLS:
            for acts in (0, 1, 1, 2, 3, 5, 12):
                watch = random_watch(told, hall, acts)
                foe = self.narrow(told, watch)
                numbers = random_numbers(told, hall.field, len(watch.numbers))
                before = repr((watch.acts, watch.coins, watch.shares))
                other = exchanged(watch, foe, numbers)
                self.assertEqual(repr((watch.acts, watch.coins, watch.shares)), before)
                self.assertEqual([other.hall, other.numbers, other.epoch], [hall, numbers, watch.epoch])
                self.assertEqual(seen(other, foe), seen(watch, foe))
                self.same(True, is_exchange, watch, foe, numbers, other)
                self.is_true(exchanged(other, foe, watch.numbers) == watch)
                self.is_true(exchanged(watch, foe, watch.numbers) == watch)
                self.deals_as_told(watch, foe, other)

    def deals_as_told(self, watch, foe, other):
        """[21.5] Who deals more, and how much."""
        hall, p = watch.hall, watch.hall.field
        changes = [(y - x) % p for x, y in zip(watch.numbers, other.numbers)]

        def hides(epoch, x):
            total = 1
            for b in union(foe, epoch):
                total = total * (b - x) * pow(b, -1, p) % p
            return total
        one, two = model_of(watch), model_of(other)
        for (epoch, act, polys, _), (_, act2, polys2, _) in zip(one.dealt, two.dealt):
            self.assertEqual(act[:-1], act2[:-1])
            barred = foe[epoch][1] if act[0] == "refresh" else foe[epoch][0]
            dealer = min(house for house in hall.places if house not in barred)
            for house in polys:
                for k, change in enumerate(changes):
                    for x in range(p):
                        more = (value(p, polys2[house][k], x) - value(p, polys[house][k], x)) % p
                        right = 0
                        if house == dealer and act[0] == "refresh":
                            right = change * (hides(epoch + 1, x) - hides(epoch, x)) % p
                        elif house == dealer and act[1] in barred:
                            right = -change * hides(epoch, x) % p
                        self.assertEqual(more, right)

    def test_every_exchange_is_one(self):
        hall = Hall(5, 3, 1, "look")
        watches = SeenTest().all_watches
        for acts, foe in (([], (((1,), ()),)), ([2], (((2,), ()),)), ([None], (((1,), (1,)), ((), ())))):
            first = list(watches(hall, (2,), acts))[3]
            found = 0
            for other in watches(hall, (4,), acts):
                right = seen(other, foe) == seen(first, foe)
                self.assertIs(is_exchange(first, foe, (4,), other), right)
                self.is_false(is_exchange(first, foe, (3,), other))
                found += right
            self.assertGreater(found, 0)

    def test_values_near_it(self):
        told = random.Random(8)
        watch = random_watch(told, LOOK5, 3, 2)
        foe = self.narrow(told, watch)
        numbers = random_numbers(told, 7, 2)
        self.judges(is_exchange, (watch, foe, numbers))
        self.judges(is_exchange, (watch, foe, numbers), [(exchanged(watch, foe, numbers),), watch.acts, LOOK5])
        one = Watch(LOOK5, (1,), ((2, 3),))
        foe = (((3,), ()),)
        other = exchanged(one, foe, (5,))
        self.is_true(is_exchange(one, foe, (5,), other))
        # One share more or less, one act more, another hall.
        first, second = other.coins[0]
        self.is_false(is_exchange(one, foe, (5,), Watch(LOOK5, (5,), (((first + 1) % 7, second),))))
        zeros = (((0, 0),),) * 5
        self.is_false(is_exchange(one, foe, (5,), other.refreshed(zeros)))
        self.is_false(is_exchange(one, foe, (5,), other.mended(1, zeros[1:])))
        mended = one.mended(1, zeros[1:])
        self.is_true(is_exchange(mended, foe, (5,), other.mended(1, zeros[1:])))
        self.is_false(is_exchange(mended, foe, (5,), other.mended(2, zeros[1:])))
        self.is_false(is_exchange(one, foe, (5,), Watch(Hall(7, 6, 2, "look"), (5,), other.coins)))
        # Nothing is seen, but another house is mended.
        nobody = (((), ()),)
        self.is_true(is_exchange(mended, nobody, (5,), other.mended(1, zeros[1:])))
        self.is_false(is_exchange(mended, nobody, (5,), other.mended(2, zeros[1:])))

    def test_wide(self):
        told = random.Random(9)
        for hall in HALLS:
            seen_wide = 0
            for _ in range(30):
                watch = random_watch(told, hall, 4)
                foe = random_foe(told, hall, watch.epoch + 1, hall.most)
                wide = [e for e, many in enumerate(widths(hall, foe)) if many > hall.most]
                if wide:
                    self.raises(Refused, ("wide", wide[0]), exchanged, watch, foe, watch.numbers)
                    self.same(True, is_exchange, watch, foe, watch.numbers, watch)
                    seen_wide += 1
            self.assertGreater(seen_wide, 2)


class RefusalsTest(Case):

    HALL = (InvalidHall, WRONG_HALLS + (LARGE,))
    WATCHES = (InvalidWatch, (None, 1, "", (), [], {}, SMALL, PRODUCT, (LATER,), [LATER], LONG, LATER.acts))

    def test_watches(self):
        numbers = (InvalidWord, wrong_rows(7, 2) + ((), (1,) * 5))
        rows = (InvalidCoins, (
            None, 1, "", (), [], {}, PRODUCT, ((1, 2),), ((1, 2),) * 3, [(1, 2)] * 2, ((1, 2), [1, 2]), ((1, 2), (1,)),
            ((1, 2), (1, 2, 3)), ((1, 2), (1, 7)), ((1, 2), (1, -1)), ((1, 2), (1, True)), ((1, 2), (1, None)), (1, 2),
            ((1, 2), None), ((1, 2), (1, LONG)), ((1, 2), (1, "2")), {0: (1, 2), 1: (1, 2)}))
        self.refuses(Watch, (LOOK5, (1, 2), ((1, 2), (3, 4))), (self.HALL, numbers, rows))
        self.assertEqual(Watch(LOOK5, (1,) * 4, ((1, 2),) * 4).numbers, (1,) * 4)
        watch = Watch(LOOK5, (1, 2), ((1, 2), (3, 4)))
        good = ((1, 2), (3, 4))

        def wrong(many):
            found = tuple((good,) * (many - 1) + (odd,) for odd in rows[1])
            return (InvalidCoins, found + (None, 1, "", (), [], {}, PRODUCT, (good,) * (many - 1), (good,) * (many + 1),
                                           [good] * many, good, nested(tuple, 8)))
        self.refuses(watch.refreshed, ((good,) * 5,), (wrong(5),))
        self.refuses(watch.mended, (3, (good,) * 4), ((InvalidNumber, wrong_numbers(1, 5)), wrong(4)))

    def foes(self):
        """What is no foe of two epochs."""
        return (InvalidLot, (
            None, 1, "", (), [], {}, PRODUCT, LONG, FOE[1:], FOE + FOE[1:], list(FOE), (FOE[0], [(2,), ()]),
            (FOE[0], ((2,), (1,))), (FOE[0], ((2,),)), (FOE[0], ((2,), (), ())), (FOE[0], ((2,), None)),
            (FOE[0], (None, ())), (FOE[0], ([2], ())), (FOE[0], ((0,), ())), (FOE[0], ((4,), ())), (FOE[0], ((2, 1), ())),
            (FOE[0], ((1, 1), ())), (FOE[0], ((True,), ())), (FOE[0], (("1",), ())), (((1,), (4,)), FOE[1]),
            (((1,), [2]), FOE[1]), (((1,), 2), FOE[1]), (None, FOE[1]), (((1,), (2,), ()), FOE[1]), (1, 2)))

    def test_foes(self):
        foes = self.foes()
        self.refuses(seen, (LATER, FOE), (self.WATCHES, foes))
        self.refuses(numbers_told, (LATER, FOE), (self.WATCHES, foes),
                     ((Refused, ("even",), (LATER, (((1,), ()), ((2,), ())))),))
        wrong = (foes[0], tuple(foe for foe in foes[1] if foe not in (FOE[1:], FOE + FOE[1:])) + ((FOE[0],) * 2,))
        self.refuses(widths, (SMALL, FOE), (self.HALL, wrong))
        numbers = (InvalidWord, wrong_rows(7, 1) + ((), (1, 2)))
        wide = (LATER, FOE, (3,))
        self.refuses(exchanged, (LATER, (((1,), ()), ((2,), ())), (3,)), (self.WATCHES, foes, numbers),
                     ((Refused, ("wide", 0), wide),))
        self.refuses(is_exchange, wide + (None,), (self.WATCHES, foes, numbers, (None, ())))
