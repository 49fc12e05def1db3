"""Dealing that holds: what one house tells and holds in the dealings of a batch."""

from evencoins.base.field import are_numbers, is_integer
from evencoins.base.polys import evaluated, evaluated_at_all
from evencoins.codes.square import row_at, square_with
from evencoins.errors import InvalidCoins, InvalidInputs, InvalidLetter, InvalidOperation, InvalidTable
from evencoins.talk.halls import check_hall, check_house, check_lie_hall, coins_each, is_house
from evencoins.talk.letters import are_rows, has_form, own_indices


def are_dealings(hall, value):
    """Whether the value is a tuple of pairs of an integer from 0 on and a house."""
    if not isinstance(value, tuple) or not all([isinstance(pair, tuple) and len(pair) == 2 for pair in value]):
        return False
    return all([is_integer(gate, 0, 10 ** 60 - 1) and is_house(hall, house) for gate, house in value])


def check_dealings(hall, batch):
    """Refuse what is no batch."""
    if not are_dealings(hall, batch):
        raise InvalidOperation("not a batch")


def own_count(hall, batch, secrets, coins, house):
    """How many dealings of the batch are a house's own, whatever the secrets and the coins are."""
    if is_house(hall, house):
        return len(own_indices(batch, house))
    # It is no house. Of one it has no dealings; but what is right for some house is not what is wrong here.
    counts = [len(own_indices(batch, each)) for each in hall.places]
    right = are_numbers(hall.field, secrets) and are_numbers(hall.field, coins)
    return len(secrets) if right and len(secrets) in counts and len(coins) == len(secrets) * coins_each(hall) else 0


def check_own(hall, batch, secrets, coins, house):
    """Refuse what is not a secret, and its coins, for each own dealing."""
    many = own_count(hall, batch, secrets, coins, house)
    if not are_numbers(hall.field, secrets) or len(secrets) != many:
        raise InvalidInputs("not a number for each own dealing")
    if not are_numbers(hall.field, coins) or len(coins) != many * coins_each(hall):
        raise InvalidCoins("not the coins of the own dealings")


def check_heard(hall, batch, rows):
    """Refuse what has not a row for each dealing."""
    if not are_rows(hall.field, rows, len(batch), hall.most + 1):
        raise InvalidTable("not a row for each dealing")


def check_told(hall, batch, word, told):
    """Refuse what is no dict from all houses to letters or texts of the word, one member for each dealing."""
    fit = isinstance(told, dict) and len(told) == hall.houses and all([is_house(hall, each) for each in told])
    if not fit or not all([has_form(hall, word, batch, len(batch), each, told[each]) for each in told]):
        raise InvalidLetter("not a letter or a text of this form from each house")


def coins_for(hall, coins, place):
    """The coins of the own dealing with this place among the own ones."""
    many = coins_each(hall)
    return coins[place * many:(place + 1) * many]


def own_squares(hall, batch, secrets, coins, house):
    """The dict from the indices of the own dealings to their squares."""
    own = own_indices(batch, house)
    return {index: square_with(secrets[place], coins_for(hall, coins, place), hall.most)
            for place, index in enumerate(own)}


def by_places(hall, columns):
    """The dict from all houses to tuples: of each column, which has an entry for each house, the one of the house."""
    if not columns:
        return {goal: () for goal in hall.places}
    letters = list(zip(*columns))
    return dict(zip(hall.places, letters))


def rows_everywhere(hall, table):
    """The rows of a square for all houses."""
    columns = [evaluated_at_all(hall.field, row, hall.places) for row in table]
    return list(zip(*columns))


def dealt_letters(hall, batch, secrets, coins, house):
    """The letters of all rows, or shares, that a house deals."""
    if hall.kind == "look":
        polys = [(secret,) + coins_for(hall, coins, place) for place, secret in enumerate(secrets)]
        return by_places(hall, [evaluated_at_all(hall.field, poly, hall.places) for poly in polys])
    squares = list(own_squares(hall, batch, secrets, coins, house).values())
    return by_places(hall, [rows_everywhere(hall, table) for table in squares])


def rows_for(hall, batch, secrets, coins, house):
    """The letters with which a house deals secrets."""
    check_hall(hall)
    check_dealings(hall, batch)
    check_own(hall, batch, secrets, coins, house)
    check_house(hall, house)
    return dealt_letters(hall, batch, secrets, coins, house)


def point_letters(hall, rows):
    """The letters of the values of all rows."""
    return by_places(hall, [evaluated_at_all(hall.field, row, hall.places) for row in rows])


def points_for(hall, batch, rows, house):
    """The letters of points of a house that heard these rows."""
    check_lie_hall(hall)
    check_dealings(hall, batch)
    check_heard(hall, batch, rows)
    check_house(hall, house)
    return point_letters(hall, rows)


def complaint_text(hall, made, points, house):
    """The complaints of a house that made these points of its rows, and heard those ones."""
    others = [other for other in hall.places if other != house and points[other] != made[other]]
    if not others:
        return ()
    return tuple([(index, other, made[other][index]) for index in range(len(made[house])) for other in others
                  if points[other][index] != made[other][index]])


def complaints_of(hall, batch, rows, points, house):
    """The text of complaints of a house."""
    check_lie_hall(hall)
    check_dealings(hall, batch)
    check_heard(hall, batch, rows)
    check_told(hall, batch, "points", points)
    check_house(hall, house)
    return complaint_text(hall, point_letters(hall, rows), points, house)


def answer_text(hall, squares, complaints):
    """The answers of a dealer with these squares, by indices."""
    found = {}
    for sender in hall.places:
        for index, other, number in complaints[sender]:
            if index in squares:
                row = row_at(hall.field, squares[index], sender)
                if evaluated(hall.field, row, other) != number:
                    found[(index, sender)] = row
    return tuple([(index, sender, found[(index, sender)]) for index, sender in sorted(found)])


def answers_of(hall, batch, secrets, coins, complaints, house):
    """The text of answers of a house to false complaints about its dealings."""
    check_lie_hall(hall)
    check_dealings(hall, batch)
    check_own(hall, batch, secrets, coins, house)
    check_told(hall, batch, "complaints", complaints)
    check_house(hall, house)
    return answer_text(hall, own_squares(hall, batch, secrets, coins, house), complaints)


def answered_rows(answers):
    """The dict from (index, house) to the answered row; each text has answers of its dealer alone."""
    return {(index, house): row for text in list(answers.values()) for index, house, row in text}


def disputes(complaints):
    """The tuples (index, house, house) of two houses that complain of one another with unlike numbers."""
    told = {(index, sender, other): number for sender in complaints for index, other, number in complaints[sender]}
    found = []
    for index, one, other in told:
        back = (index, other, one)
        if one < other and back in told and told[back] != told[(index, one, other)]:
            found.append((index, one, other))
    return found


def vote_text(hall, rows, complaints, answers, house):
    """The votes of a house that heard these rows and texts."""
    answered = answered_rows(answers)
    votes = [1] * len(rows)
    for index, other in answered:
        row = answered[(index, other)]
        if other == house or evaluated(hall.field, row, house) != evaluated(hall.field, rows[index], other):
            votes[index] = 0
    for index, one, other in disputes(complaints):
        if (index, one) not in answered and (index, other) not in answered:
            votes[index] = 0
    return tuple(votes)


def votes_of(hall, batch, rows, complaints, answers, house):
    """The text of votes of a house."""
    check_lie_hall(hall)
    check_dealings(hall, batch)
    check_heard(hall, batch, rows)
    check_told(hall, batch, "complaints", complaints)
    check_told(hall, batch, "answers", answers)
    check_house(hall, house)
    return vote_text(hall, rows, complaints, answers, house)


def taken_by(hall, votes):
    """For each dealing 1 if enough houses vote for it, or else 0."""
    texts = list(votes.values())
    least = hall.houses - hall.most
    return tuple([1 if sum(column) >= least else 0 for column in zip(*texts)])


def held_shares(rows, answers, taken, house):
    """The shares of a house: of the row that counts, and 0 for what is not taken."""
    answered = answered_rows(answers)
    counting = [answered.get((index, house), row) for index, row in enumerate(rows)]
    return tuple([row[0] if fit == 1 else 0 for row, fit in zip(counting, taken)])


def shares_behind(hall, batch, rows, answers, votes, house):
    """Which dealings are taken, and the shares of a house."""
    check_lie_hall(hall)
    check_dealings(hall, batch)
    check_heard(hall, batch, rows)
    check_told(hall, batch, "answers", answers)
    check_told(hall, batch, "votes", votes)
    check_house(hall, house)
    taken = taken_by(hall, votes)
    return taken, held_shares(rows, answers, taken, house)
