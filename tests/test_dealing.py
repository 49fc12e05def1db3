"""Stage 12: dealing that holds."""

import random
from itertools import combinations

from evencoins.errors import (
    InvalidCoins, InvalidHall, InvalidInputs, InvalidLetter, InvalidNumber, InvalidOperation, InvalidTable,
)
from evencoins.talk.dealing import answers_of, complaints_of, points_for, rows_for, shares_behind, votes_of
from evencoins.talk.halls import Hall
from tests.helper import (
    LARGE, LONG, PRODUCT, SMALL, WRONG_HALLS, WRONG_LIE_HALLS, Case, value, wrong_numbers, wrong_rows,
)
from tests.test_halls import WIDE, WIDEST
from tests.test_square import full, row_by

BATCH = ((0, 1), (1, 2), (4, 1))
HALLS = (LARGE, WIDE, Hall(11, 6, 1, "lie"))


def each_coins(hall):
    """How many coins a dealing needs."""
    return hall.most if hall.kind == "look" else hall.most * (hall.most + 3) // 2


def own(batch, house):
    """The indices of the dealings of a house."""
    return [index for index, (_, dealer) in enumerate(batch) if dealer == house]


def random_numbers(told, field, many):
    """So many numbers."""
    return tuple(told.randrange(field) for _ in range(many))


def random_batch(told, hall, many):
    """A batch of so many dealings."""
    return tuple((told.randrange(60), told.randrange(1, hall.houses + 1)) for _ in range(many))


def tables(hall, batch, secrets, coins):
    """The squares of all dealings, from the secrets and the coins of all houses."""
    found, each = {}, each_coins(hall)
    for house in hall.places:
        for place, index in enumerate(own(batch, house)):
            found[index] = full(secrets[house][place], coins[house][place * each:(place + 1) * each], hall.most)
    return found


class Talk:
    """The five rounds of one batch, in which the lot's houses tell what comes of `told`."""

    def __init__(self, told, hall, batch, lot, wild=5):
        self.told, self.hall, self.batch, self.lot, self.wild = told, hall, batch, lot, wild
        each = each_coins(hall)
        self.secrets = {house: random_numbers(told, hall.field, len(own(batch, house))) for house in hall.places}
        self.coins = {house: random_numbers(told, hall.field, each * len(own(batch, house))) for house in hall.places}
        self.tables = tables(hall, batch, self.secrets, self.coins)
        letters = {house: rows_for(hall, batch, self.secrets[house], self.coins[house], house) for house in hall.places}
        heard = {goal: {house: self.bent(house, goal, letters[house][goal]) for house in hall.places}
                 for goal in hall.places}
        self.rows = {goal: tuple(heard[goal][dealer][own(batch, dealer).index(index)]
                                 for index, (_, dealer) in enumerate(batch)) for goal in hall.places}
        letters = {house: points_for(hall, batch, self.rows[house], house) for house in hall.places}
        self.points = {goal: {house: self.bent(house, goal, letters[house][goal]) for house in hall.places}
                       for goal in hall.places}
        self.complaints = {house: self.text(house, complaints_of(
            hall, batch, self.rows[house], self.points[house], house)) for house in hall.places}
        self.answers = {house: self.text(house, answers_of(
            hall, batch, self.secrets[house], self.coins[house], self.complaints, house)) for house in hall.places}
        self.votes = {house: votes_of(hall, batch, self.rows[house], self.complaints, self.answers, house)
                      for house in hall.places}
        for house in lot:
            if told.randrange(3):
                self.votes[house] = tuple(told.randrange(2) for _ in batch)
        self.ends = {house: shares_behind(hall, batch, self.rows[house], self.answers, self.votes, house)
                     for house in hall.places}

    def bent(self, house, goal, letter):
        """The letter, or what a led house tells in its place."""
        def number(x):
            return self.told.randrange(self.hall.field) if self.told.randrange(10) < self.wild else x
        if house not in self.lot or house == goal or not self.told.randrange(3):
            return letter
        return tuple(tuple(number(x) for x in row) if isinstance(row, tuple) else number(row) for row in letter)

    def text(self, house, text):
        """The text, or what a led house puts on the wall."""
        told, hall, batch = self.told, self.hall, self.batch
        if house not in self.lot or not told.randrange(3):
            return text
        found = {part[:2]: part for part in text if told.randrange(4)}
        answers = bool(text) and isinstance(text[0][2], tuple) or not text and told.randrange(2)
        for _ in range(told.randrange(4)):
            index, other = told.randrange(len(batch)), told.randrange(1, hall.houses + 1)
            if answers and hasattr(self, "complaints") and index in own(batch, house):
                right = row_by(hall.field, self.tables[index], other)
                found[index, other] = (index, other, told.choice((
                    right, random_numbers(told, hall.field, hall.most + 1))))
            elif not hasattr(self, "complaints") and other != house:
                found[index, other] = (index, other, told.randrange(hall.field))
        return tuple(found[key] for key in sorted(found))


def do_meet(field, one, row, other, row2):
    """Whether two rows meet."""
    return value(field, row, other) == value(field, row2, one)


def meeting_share(hall, rows):
    """Whether all rows, by houses, are rows of one square: whether they meet two by two."""
    return all(do_meet(hall.field, i, rows[i], j, rows[j]) for i, j in combinations(sorted(rows), 2))


class RowsTest(Case):

    def test_look(self):
        told = random.Random(1)
        for hall in (SMALL, WIDEST, Hall(5, 4, 1, "look")):
            for many in (0, 1, 3, 7):
                batch = random_batch(told, hall, many)
                for house in hall.places:
                    indices = own(batch, house)
                    secrets = random_numbers(told, hall.field, len(indices))
                    coins = random_numbers(told, hall.field, len(indices) * hall.most)
                    polys = [(secret,) + coins[k * hall.most:(k + 1) * hall.most] for k, secret in enumerate(secrets)]
                    self.same({goal: tuple(value(hall.field, poly, goal) for poly in polys) for goal in hall.places},
                              rows_for, hall, batch, secrets, coins, house)
        self.same({1: (5, 3), 2: (0, 5), 3: (2, 0)}, rows_for, SMALL, BATCH, (3, 1), (2, 2), 1)
        self.same({1: (), 2: (), 3: ()}, rows_for, SMALL, BATCH, (), (), 3)

    def test_lie(self):
        told = random.Random(2)
        for hall in HALLS:
            for many in (0, 1, 3, 7):
                batch = random_batch(told, hall, many)
                secrets = {house: random_numbers(told, hall.field, len(own(batch, house))) for house in hall.places}
                coins = {house: random_numbers(told, hall.field, len(own(batch, house)) * each_coins(hall))
                         for house in hall.places}
                found = tables(hall, batch, secrets, coins)
                for house in hall.places:
                    right = {goal: tuple(row_by(hall.field, found[index], goal) for index in own(batch, house))
                             for goal in hall.places}
                    self.same(right, rows_for, hall, batch, secrets[house], coins[house], house)

    def test_points(self):
        told = random.Random(3)
        for hall in HALLS:
            for many in (0, 1, 5):
                batch = random_batch(told, hall, many)
                rows = tuple(random_numbers(told, hall.field, hall.most + 1) for _ in batch)
                for house in hall.places:
                    self.same({goal: tuple(value(hall.field, row, goal) for row in rows) for goal in hall.places},
                              points_for, hall, batch, rows, house)

    def test_gates_do_not_matter(self):
        one, other = ((0, 1), (0, 1), (5, 2)), ((9, 1), (3, 1), (10 ** 60 - 1, 2))
        self.assertEqual(rows_for(LARGE, one, (1, 2), (1, 2, 3, 4), 1), rows_for(LARGE, other, (1, 2), (1, 2, 3, 4), 1))


class WallTest(Case):

    def test_complaints(self):
        told = random.Random(4)
        for hall in HALLS:
            for _ in range(30):
                batch = random_batch(told, hall, told.randrange(5))
                rows = tuple(random_numbers(told, hall.field, hall.most + 1) for _ in batch)
                house = told.choice(hall.places)
                points = {other: tuple(value(hall.field, row, other) if told.randrange(3) else told.randrange(hall.field)
                                       for row in rows) for other in hall.places}
                right = tuple((index, other, value(hall.field, row, other)) for index, row in enumerate(rows)
                              for other in hall.places if other != house and
                              points[other][index] != value(hall.field, row, other))
                self.same(right, complaints_of, hall, batch, rows, points, house)

    def test_nobody_complains_of_itself(self):
        points = {house: (value(7, (1, 2), house),) for house in LARGE.places}
        self.same((), complaints_of, LARGE, ((0, 1),), ((1, 2),), {**points, 3: (6,)}, 3)
        self.same(((0, 3, 0),), complaints_of, LARGE, ((0, 1),), ((1, 2),), {**points, 3: (6,)}, 1)

    def answers_by(self, hall, batch, found, complaints, house):
        """The answers of a dealer, complaint by complaint."""
        right = set()
        for sender in hall.places:
            for index, other, number in complaints[sender]:
                row = row_by(hall.field, found[index], sender)
                if batch[index][1] == house and number != value(hall.field, row, other):
                    right.add((index, sender, row))
        return tuple(sorted(right))

    def test_answers_to_whichever_complaint(self):
        told = random.Random(5)
        for hall in HALLS:
            for _ in range(40):
                batch = random_batch(told, hall, 1 + told.randrange(4))
                secrets = {house: random_numbers(told, hall.field, len(own(batch, house))) for house in hall.places}
                coins = {house: random_numbers(told, hall.field, len(own(batch, house)) * each_coins(hall))
                         for house in hall.places}
                found = tables(hall, batch, secrets, coins)
                complaints = {}
                for sender in hall.places:
                    text = []
                    for index in range(len(batch)):
                        for other in hall.places:
                            if other != sender and told.randrange(4) == 0:
                                right = value(hall.field, row_by(hall.field, found[index], sender), other)
                                text.append((index, other, told.choice((right, told.randrange(hall.field)))))
                    complaints[sender] = tuple(text)
                for house in hall.places:
                    self.same(self.answers_by(hall, batch, found, complaints, house),
                              answers_of, hall, batch, secrets[house], coins[house], complaints, house)

    def test_answers(self):
        table = full(3, (2, 4), 1)
        nobody = {house: () for house in LARGE.places}
        for sender in LARGE.places:
            row = row_by(7, table, sender)
            for other in LARGE.places:
                for number in range(7):
                    if other != sender:
                        text = {**nobody, sender: ((1, other, number),)}
                        right = () if number == value(7, row, other) else ((1, sender, row),)
                        self.same(right, answers_of, LARGE, BATCH, (3,), (2, 4), text, 2)
                        self.same((), answers_of, LARGE, BATCH, (3, 3), (2, 4, 2, 4), text, 1)
                        self.same((), answers_of, LARGE, BATCH, (), (), text, 3)

    def votes_by(self, hall, batch, rows, complaints, answers, house):
        """The votes of a house, dealing by dealing."""
        votes = []
        for index, (_, dealer) in enumerate(batch):
            answered = {other: row for at, other, row in answers[dealer] if at == index}
            told = {(sender, other): number for sender in hall.places for at, other, number in complaints[sender]
                    if at == index}
            vote = 1
            if house in answered:
                vote = 0
            for other, row in answered.items():
                if value(hall.field, row, house) != value(hall.field, rows[index], other):
                    vote = 0
            for i, j in told:
                if (j, i) in told and told[i, j] != told[j, i] and i not in answered and j not in answered:
                    vote = 0
            votes.append(vote)
        return tuple(votes)

    def test_votes(self):
        told = random.Random(6)
        seen = set()
        for hall in HALLS:
            for _ in range(150):
                batch = random_batch(told, hall, 1 + told.randrange(3))
                squares = {index: full(0, random_numbers(told, hall.field, each_coins(hall)), hall.most)
                           for index in range(len(batch))}
                rows = tuple(row_by(hall.field, squares[index], 2) for index in range(len(batch)))
                answers = {dealer: tuple(
                    (index, other, row_by(hall.field, squares[index], other) if told.randrange(5) else random_numbers(
                        told, hall.field, hall.most + 1))
                    for index in own(batch, dealer) for other in hall.places if told.randrange(8) == 0)
                    for dealer in hall.places}
                complaints = {sender: tuple(
                    (index, other, told.randrange(hall.field)) for index in range(len(batch)) for other in hall.places
                    if other != sender and told.randrange(12) == 0) for sender in hall.places}
                right = self.votes_by(hall, batch, rows, complaints, answers, 2)
                self.same(right, votes_of, hall, batch, rows, complaints, answers, 2)
                seen.update(right)
        self.assertEqual(seen, {0, 1})

    def test_each_reason(self):
        nobody = {house: () for house in LARGE.places}
        table = full(3, (2, 4), 1)
        rows = {house: row_by(7, table, house) for house in LARGE.places}

        def vote(complaints, answers, house=3):
            return votes_of(LARGE, ((0, 1),), (rows[house],), {**nobody, **complaints}, {**nobody, **answers}, house)
        self.assertEqual(vote({}, {}), (1,))
        self.assertEqual(vote({}, {1: ((0, 3, rows[3]),)}), (0,))
        self.assertEqual(vote({}, {1: ((0, 4, rows[4]),)}), (1,))
        self.assertEqual(vote({}, {1: ((0, 4, (0, 0)),)}), (0,))
        self.assertEqual(vote({}, {1: ((0, 1, rows[1]), (0, 2, rows[2]), (0, 4, rows[4]), (0, 5, rows[5]))}), (1,))
        self.assertEqual(vote({}, {1: ((0, 1, rows[1]), (0, 5, (rows[5][0], 6)))}), (0,))
        apart = {4: ((0, 5, 1),), 5: ((0, 4, 2),)}
        self.assertEqual(vote(apart, {}), (0,))
        self.assertEqual(vote({4: ((0, 5, 1),), 5: ((0, 4, 1),)}, {}), (1,))
        self.assertEqual(vote({4: ((0, 5, 1),), 5: ((0, 3, 2),)}, {}), (1,))
        self.assertEqual(vote({4: ((0, 5, 1),)}, {}), (1,))
        for house in (4, 5):
            self.assertEqual(vote(apart, {1: ((0, house, rows[house]),)}), (1,))
        self.assertEqual(vote(apart, {1: ((0, 2, rows[2]),)}), (0,))
        self.assertEqual(vote({3: ((0, 5, 1),), 5: ((0, 3, 2),)}, {}), (0,))
        self.assertEqual(vote({}, {1: ((0, 1, rows[1]),)}, 1), (0,))

    def test_other_dealings_do_not_matter(self):
        nobody = {house: () for house in LARGE.places}
        rows = ((1, 1), (2, 2), (3, 3))
        complaints = {**nobody, 4: ((1, 5, 1),), 5: ((1, 4, 2),)}
        self.assertEqual(votes_of(LARGE, BATCH, rows, complaints, nobody, 3), (1, 0, 1))
        complaints = {**nobody, 4: ((0, 5, 1),), 5: ((1, 4, 2),)}
        self.assertEqual(votes_of(LARGE, BATCH, rows, complaints, nobody, 3), (1, 1, 1))
        answers = {**nobody, 1: ((2, 3, (0, 0)),)}
        self.assertEqual(votes_of(LARGE, BATCH, rows, nobody, answers, 3), (1, 1, 0))


class BehindTest(Case):

    def test_taken(self):
        for hall in HALLS:
            n, t = hall.houses, hall.most
            row = (3,) + (1,) * t
            nobody = {house: () for house in hall.places}
            for many in range(n + 1):
                votes = {house: (1 if house <= many else 0, 1 if house > n - many else 0) for house in hall.places}
                fit = 1 if many >= n - t else 0
                self.same(((fit, fit), (3 * fit, 3 * fit)), shares_behind, hall, ((0, 1), (0, 1)), (row, row), nobody,
                          votes, 2)

    def test_counting_rows(self):
        nobody = {house: () for house in LARGE.places}
        rows = ((1, 2), (3, 4), (5, 6))
        for house in LARGE.places:
            answers = {**nobody, 1: ((0, 2, (6, 1)), (2, 2, (4, 1)), (2, 3, (0, 1))), 2: ((1, 3, (2, 2)),)}
            votes = {other: (1, 1, 1 if other == 4 else 0) for other in LARGE.places}
            right = {2: (6, 3, 0), 3: (1, 2, 0)}.get(house, (1, 3, 0))
            self.same(((1, 1, 0), right), shares_behind, LARGE, BATCH, rows, answers, votes, house)
            votes = {other: (1, 0, 1) for other in LARGE.places}
            right = {2: (6, 0, 4), 3: (1, 0, 0)}.get(house, (1, 0, 5))
            self.same(((1, 0, 1), right), shares_behind, LARGE, BATCH, rows, answers, votes, house)
        self.same(((), ()), shares_behind, LARGE, (), (), nobody, nobody, 1)

    def test_talks(self):
        told = random.Random(7)
        taken = {0: 0, 1: 0}
        for hall, many in ((LARGE, 160), (WIDE, 60), (Hall(11, 6, 1, "lie"), 80)):
            for index in range(many):
                lot = tuple(sorted(told.sample(hall.places, told.randrange(hall.most + 1))))
                batch = random_batch(told, hall, 4)
                if lot and index % 2:
                    batch = batch[:2] + ((7, lot[0]), (8, lot[-1]))
                talk = Talk(told, hall, batch, lot, wild=told.choice((1, 3, 8)))
                self.is_never_struck(hall, batch, lot, talk)
                self.has_one_square(hall, batch, lot, talk, taken)
                self.tells_nothing(hall, batch, lot, talk)
        self.assertGreater(min(taken.values()), 20)

    def is_never_struck(self, hall, batch, lot, talk):
        """[12.2] Who deals rightly is taken by all, and nothing is answered but what is true."""
        for index, (_, dealer) in enumerate(batch):
            if dealer not in lot:
                for house in hall.places:
                    if house not in lot:
                        self.assertEqual(talk.votes[house][index], 1)
                        self.assertEqual(talk.ends[house][0][index], 1)
                        row = row_by(hall.field, talk.tables[index], house)
                        self.assertEqual(talk.rows[house][index], row)
                        self.assertEqual(talk.ends[house][1][index], row[0])
                for at, house, row in talk.answers[dealer]:
                    self.assertEqual(row, row_by(hall.field, talk.tables[at], house))
                    self.assertIn(house, lot)

    def has_one_square(self, hall, batch, lot, talk, taken):
        """[12.3] All free houses have taken the same dealings, and their rows meet; all shares are 0 else."""
        free = [house for house in hall.places if house not in lot]
        for house in free:
            self.assertEqual(talk.ends[house][0], talk.ends[free[0]][0])
        for index, (_, dealer) in enumerate(batch):
            fit = talk.ends[free[0]][0][index]
            if dealer in lot:
                taken[fit] += 1
            answered = {house: row for at, house, row in talk.answers[dealer] if at == index}
            rows = {house: answered.get(house, talk.rows[house][index]) for house in free}
            if fit:
                self.assertTrue(meeting_share(hall, rows))
            for house in free:
                self.assertEqual(talk.ends[house][1][index], rows[house][0] if fit else 0)

    def tells_nothing(self, hall, batch, lot, talk):
        """[12.4] What is complained of in a dealing of a free house has a led house in it."""
        for sender in hall.places:
            for index, other, _ in talk.complaints[sender]:
                if batch[index][1] not in lot:
                    self.assertTrue(sender in lot or other in lot)

    def test_not_true(self):
        # A dealing that is not taken though its dealer has dealt rightly: it answers what nobody asked.
        nobody = {house: () for house in LARGE.places}
        row = row_by(7, full(3, (2, 4), 1), 3)
        answers = {**nobody, 1: ((0, 3, row), (0, 4, row_by(7, full(3, (2, 4), 1), 4)))}
        votes = {house: votes_of(LARGE, ((0, 1),), (row_by(7, full(3, (2, 4), 1), house),), nobody, answers, house)
                 for house in LARGE.places}
        self.assertEqual([votes[house] for house in LARGE.places], [(1,), (1,), (0,), (0,), (1,)])
        self.assertEqual(shares_behind(LARGE, ((0, 1),), (row,), answers, votes, 3), ((0,), (0,)))


class RefusalsTest(Case):

    BATCHES = (InvalidOperation, (
        None, 1, "12", [], list(BATCH), ((0, 1), [1, 2], (4, 1)), ((0,), (1, 2), (4, 1)), ((0, 1, 1), (1, 2), (4, 1)),
        ((-1, 1), (1, 2), (4, 1)), ((0, 0), (1, 2), (4, 1)), ((0, 6), (1, 2), (4, 1)), ((True, 1), (1, 2), (4, 1)),
        ((0, True), (1, 2), (4, 1)), ((None, 1), (1, 2), (4, 1)), ((0, None), (1, 2), (4, 1)), (0, 1), (None,),
        ((LONG, 1), (1, 2), (4, 1)), (("0", 1), (1, 2), (4, 1)), {(0, 1): 1}, PRODUCT, ((0, LONG), (1, 2), (4, 1))))
    HOUSES = (InvalidNumber, wrong_numbers(1, 5))
    ROWS = (InvalidTable, (
        None, 1, (), [], [(1, 2)] * 3, ((1, 2),) * 2, ((1, 2),) * 4, ((1, 2), (1, 2), (1,)), ((1, 2), (1, 2), (1, 2, 3)),
        ((1, 2), (1, 2), [1, 2]), ((1, 2), (1, 2), (1, 7)), ((1, 2), (1, 2), (1, -1)), ((1, 2), (1, 2), (1, True)),
        ((1, 2), (1, 2), (1, None)), ((1, 2), (1, 2), None), ((1, 2), (1, 2), 1), (1, 2, 3), {0: (1, 2)},
        ((1, 2), (1, 2), (1, LONG)), ((1, 2), (1, 2), ()), PRODUCT))
    INPUTS = (InvalidInputs, wrong_rows(7, 2) + ((), (1,), (1, 2, 3)))
    COINS = (InvalidCoins, wrong_rows(7, 4) + ((), (1,), (1, 2), (1, 2, 3), (1, 2, 3, 4, 5), (1,) * 6))

    def told(self, right, wrong):
        """Dicts from all houses to right texts that are wrong at one place."""
        good = {house: right for house in LARGE.places}
        return (InvalidLetter, tuple({**good, 4: other} for other in wrong) + (
            None, (), [], 1, "", PRODUCT, {}, {k: right for k in (1, 2, 3, 4)}, {**good, 6: right}, {**good, 0: right},
            {k: right for k in (2, 3, 4, 5, 6)}, {k: right for k in (0, 1, 2, 3, 4)},
            {k: right for k in (True, 2, 3, 4, 5)}, {k: right for k in ("1", 2, 3, 4, 5)},
            {k: right for k in (None, 2, 3, 4, 5)}, [right] * 5, (right,) * 5))

    POINTS = (None, 1, [1, 2, 3], (1, 2), (1, 2, 3, 4), (1, 2, 7), (1, 2, -1), (1, 2, True), (1, 2, None), (1, 2, (3,)),
              (1, 2, "3"), (), (1, 2, LONG))
    COMPLAINTS = (None, 1, [], ((3, 1, 0),), ((-1, 1, 0),), ((0, 4, 0),), ((0, 0, 0),), ((0, 6, 0),), ((0, 1, 7),),
                  ((0, 1, -1),), ((0, 1),), ((0, 1, 0, 0),), ([0, 1, 0],), ((1, 1, 0), (0, 1, 0)),
                  ((0, 1, 0), (0, 1, 1)), ((0, 2, 0), (0, 1, 0)), ((True, 1, 0),), ((0, True, 0),), ((0, 1, False),),
                  (0, 1, 0), (None,), ((0, 1, (1, 2)),))
    ANSWERS = (None, 1, [], ((0, 1, (1, 2)),), ((1, 1, (1, 2)),), ((3, 1, (1, 2)),), (0, 1, (1, 2)), (None,),
               ((0, 1, 0),), ((-1, 1, (1, 2)),))
    VOTES = (None, 1, [1, 1, 1], (1, 1), (1, 1, 1, 1), (1, 1, 2), (1, 1, -1), (1, 1, True), (1, 1, None), (), (1, 1, (1,)))
    NOBODY = {house: () for house in range(1, 6)}

    def test_rows(self):
        hall = (InvalidHall, WRONG_HALLS)
        self.refuses(rows_for, (LARGE, BATCH, (1, 2), (1, 2, 3, 4), 1), (
            hall, self.BATCHES, self.INPUTS, self.COINS, (InvalidNumber, ())))
        self.refuses(rows_for, (LARGE, BATCH[:0], (), (), 3), (
            hall, (InvalidOperation, ()), (InvalidInputs, ((1,), [], None)), (InvalidCoins, ((1,), [], None)),
            self.HOUSES))
        self.refuses(rows_for, (SMALL, BATCH, (1, 2), (3, 4), 1), (
            hall, self.BATCHES, self.INPUTS, (InvalidCoins, wrong_rows(7, 2) + ((), (1,), (1, 2, 3, 4))),
            (InvalidNumber, ())))
        for house in wrong_numbers(1, 5):
            self.raises(InvalidNumber, house, rows_for, LARGE, BATCH, (1, 2), (1, 2, 3, 4), house)
            self.raises(InvalidNumber, house, rows_for, LARGE, BATCH, (), (), house)
            self.raises(InvalidInputs, None, rows_for, LARGE, BATCH, (1, 2, 3), (1, 2, 3, 4), house)
            self.raises(InvalidInputs, None, rows_for, LARGE, BATCH, (1, 7), (1, 2, 3, 4), house)
            self.raises(InvalidInputs, None, rows_for, LARGE, BATCH, None, (1, 2, 3, 4), house)
            self.raises(InvalidCoins, None, rows_for, LARGE, BATCH, (), (1,), house)

    def test_points(self):
        hall = (InvalidHall, WRONG_LIE_HALLS)
        rows = ((1, 2),) * 3
        self.refuses(points_for, (LARGE, BATCH, rows, 2), (hall, self.BATCHES, self.ROWS, self.HOUSES))
        points = {house: (1, 2, 3) for house in LARGE.places}
        self.refuses(complaints_of, (LARGE, BATCH, rows, points, 2), (
            hall, self.BATCHES, self.ROWS, self.told((1, 2, 3), self.POINTS), self.HOUSES))

    def test_texts(self):
        hall = (InvalidHall, WRONG_LIE_HALLS)
        rows = ((1, 2),) * 3
        complaints, answers = self.told((), self.COMPLAINTS), self.told((), self.ANSWERS)
        votes = self.told((1, 1, 1), self.VOTES)
        self.refuses(answers_of, (LARGE, BATCH, (1, 2), (1, 2, 3, 4), self.NOBODY, 1), (
            hall, self.BATCHES, self.INPUTS, self.COINS, complaints, (InvalidNumber, ())))
        self.refuses(answers_of, (LARGE, BATCH, (), (), self.NOBODY, 3), (
            hall, self.BATCHES, (InvalidInputs, (None, [])), (InvalidCoins, (None, [])), complaints, self.HOUSES))
        self.refuses(votes_of, (LARGE, BATCH, rows, self.NOBODY, self.NOBODY, 3), (
            hall, self.BATCHES, self.ROWS, complaints, answers, self.HOUSES))
        good = {house: (1, 1, 1) for house in LARGE.places}
        self.refuses(shares_behind, (LARGE, BATCH, rows, self.NOBODY, good, 3), (
            hall, self.BATCHES, self.ROWS, answers, votes, self.HOUSES))

    def test_right_letters_are_taken(self):
        rows = ((1, 2),) * 3
        text = {**self.NOBODY, 1: ((0, 2, 0), (2, 5, 6)), 4: ((1, 2, 3), (1, 3, 3))}
        answers = {**self.NOBODY, 1: ((0, 1, (0, 0)), (2, 5, (6, 6))), 2: ((1, 2, (1, 2)),)}
        votes = {house: (0, 1, 0) for house in LARGE.places}
        self.assertEqual(len(votes_of(LARGE, BATCH, rows, text, answers, 3)), 3)
        self.assertEqual(shares_behind(LARGE, BATCH, rows, answers, votes, 3), ((0, 1, 0), (0, 1, 0)))
        for text, names in (((0, 1, (0, 0)), (2, 3, 4, 5)), ((1, 1, (0, 0)), (1, 3, 4, 5))):
            for house in names:
                self.raises(InvalidLetter, None, shares_behind, LARGE, BATCH, rows, {**self.NOBODY, house: (text,)},
                            votes, 3)
