"""Dealing that holds: what one house tells and holds in the dealings of a batch."""

from evencoins.base.field import are_numbers, is_integer
from evencoins.errors import InvalidCoins, InvalidInputs, InvalidLetter, InvalidOperation, InvalidTable
from evencoins.talk.halls import check_hall, check_house, check_lie_hall, is_house
from evencoins.talk.letters import are_rows, has_form, own_indices


def are_dealings(hall, value):
    """Whether the value is a tuple of pairs of an integer from 0 on and a house."""
    if not isinstance(value, tuple) or not all([isinstance(pair, tuple) and len(pair) == 2 for pair in value]):
        return False
    return all([is_integer(gate, 0, 10 ** 60 - 1) and is_house(hall, house) for gate, house in value])


def check_dealings(hall, batch):
    """Refuse what is no batch."""
    if not are_dealings(hall, batch):
        raise InvalidOperation("not a batch")


def own_count(hall, batch, secrets, coins, house):
    """How many dealings of the batch are a house's own, whatever the secrets and the coins are."""
    if is_house(hall, house):
        return len(own_indices(batch, house))
    # It is no house. Of one it has no dealings; but what is right for some house is not what is wrong here.
    counts = [len(own_indices(batch, each)) for each in hall.places]
    right = are_numbers(hall.field, secrets) and are_numbers(hall.field, coins)
    return len(secrets) if right and len(secrets) in counts and len(coins) == len(secrets) * hall.coins_each else 0


def check_own(hall, batch, secrets, coins, house):
    """Refuse what is not a secret, and its coins, for each own dealing."""
    many = own_count(hall, batch, secrets, coins, house)
    if not are_numbers(hall.field, secrets) or len(secrets) != many:
        raise InvalidInputs("not a number for each own dealing")
    if not are_numbers(hall.field, coins) or len(coins) != many * hall.coins_each:
        raise InvalidCoins("not the coins of the own dealings")


def check_heard(hall, batch, rows):
    """Refuse what has not a row for each dealing."""
    if not are_rows(hall.field, rows, len(batch), hall.most + 1):
        raise InvalidTable("not a row for each dealing")


def check_told(hall, batch, word, told):
    """Refuse what is no dict from all houses to letters or texts of the word, one member for each dealing."""
    fit = isinstance(told, dict) and len(told) == hall.houses and all([is_house(hall, each) for each in told])
    if not fit or not all([has_form(hall, word, batch, len(batch), each, told[each]) for each in told]):
        raise InvalidLetter("not a letter or a text of this form from each house")


def coins_for(hall, coins, place):
    """The coins of the own dealing with this place among the own ones."""
    many = hall.coins_each
    return coins[place * many:(place + 1) * many]


def texts_of(hall, told):
    """The list of what all houses told, by houses."""
    return [told[house] for house in hall.places]


def are_blank(texts):
    """Whether none of the texts tells anything."""
    return texts.count(()) == len(texts)


def own_rows(hall, batch, secrets, coins, house):
    """The dict from the indices of the own dealings to the lists of the rows of all houses."""
    own = own_indices(batch, house)
    return {index: hall.gauge.rows_of(secrets[place], coins_for(hall, coins, place)) for place, index in enumerate(own)}


def by_places(columns, many):
    """The list of so many tuples, one for each house: of each column, which has an entry for each house, its one."""
    return list(zip(*columns)) if columns else [()] * many


def dealt_letters(hall, batch, secrets, coins, house):
    """The letters of all rows, or shares, that a house deals."""
    if hall.kind == "look":
        columns = [hall.gauge.shares_of(secret, coins_for(hall, coins, place)) for place, secret in enumerate(secrets)]
    else:
        columns = list(own_rows(hall, batch, secrets, coins, house).values())
    return dict(zip(hall.places, by_places(columns, hall.houses)))


def rows_for(hall, batch, secrets, coins, house):
    """The letters with which a house deals secrets."""
    check_hall(hall)
    check_dealings(hall, batch)
    check_own(hall, batch, secrets, coins, house)
    check_house(hall, house)
    return dealt_letters(hall, batch, secrets, coins, house)


def point_letters(hall, rows):
    """The letters of the values of all rows."""
    return {goal: hall.gauge.points_of(rows, goal) for goal in hall.places}


def points_for(hall, batch, rows, house):
    """The letters of points of a house that heard these rows."""
    check_lie_hall(hall)
    check_dealings(hall, batch)
    check_heard(hall, batch, rows)
    check_house(hall, house)
    return point_letters(hall, rows)


def complaints_about(unlike, many):
    """The complaints about others in so many dealings, by tuples of a house, its points, and the own ones."""
    return tuple([(index, other, made[index]) for index in range(many) for other, told, made in unlike
                  if told[index] != made[index]])


def complaint_text(hall, made, points, house):
    """The complaints of a house that made these points of its rows, and heard those ones."""
    unlike = [(other, points[other], made[other]) for other in hall.places
              if other != house and points[other] != made[other]]
    return complaints_about(unlike, len(made[house])) if unlike else ()


def complaints_of(hall, batch, rows, points, house):
    """The text of complaints of a house."""
    check_lie_hall(hall)
    check_dealings(hall, batch)
    check_heard(hall, batch, rows)
    check_told(hall, batch, "points", points)
    check_house(hall, house)
    return complaint_text(hall, point_letters(hall, rows), points, house)


def answer_text(hall, dealt, complaints):
    """The answers of a dealer to the texts of all houses; `dealt` has their rows, by the indices of its dealings."""
    gauge = hall.gauge
    found = {}
    for sender, text in zip(hall.places, complaints):
        for index, other, number in text:
            if index in dealt:
                row = dealt[index][sender - 1]
                if gauge.point_of(row, other) != number:
                    found[(index, sender)] = row
    return tuple([(index, sender, found[(index, sender)]) for index, sender in sorted(found)])


def answers_of(hall, batch, secrets, coins, complaints, house):
    """The text of answers of a house to false complaints about its dealings."""
    check_lie_hall(hall)
    check_dealings(hall, batch)
    check_own(hall, batch, secrets, coins, house)
    check_told(hall, batch, "complaints", complaints)
    check_house(hall, house)
    return answer_text(hall, own_rows(hall, batch, secrets, coins, house), texts_of(hall, complaints))


def answered_rows(answers):
    """The dict from (index, house) to the answered row; each text has answers of its dealer alone."""
    return {(index, house): row for text in answers for index, house, row in text}


def open_disputes(complaints, answered):
    """The dict of the indices of dealings with two houses that complain of one another with unlike numbers.

    They count if neither of them was answered.
    """
    told = {(index, sender, other): number for sender, text in enumerate(complaints, start=1)
            for index, other, number in text}
    found = {}
    for (index, one, other), number in told.items():
        if one < other and told.get((index, other, one), number) != number:
            if (index, one) not in answered and (index, other) not in answered:
                found[index] = True
    return found


def vote_text(hall, rows, answered, quarrels, house):
    """The votes of a house that heard these rows, with the answered rows, and the dealings in dispute."""
    gauge = hall.gauge
    votes = [0 if index in quarrels else 1 for index in range(len(rows))]
    for (index, other), row in answered.items():
        if other == house or gauge.point_of(row, house) != gauge.point_of(rows[index], other):
            votes[index] = 0
    return tuple(votes)


def votes_of(hall, batch, rows, complaints, answers, house):
    """The text of votes of a house."""
    check_lie_hall(hall)
    check_dealings(hall, batch)
    check_heard(hall, batch, rows)
    check_told(hall, batch, "complaints", complaints)
    check_told(hall, batch, "answers", answers)
    check_house(hall, house)
    answered = answered_rows(texts_of(hall, answers))
    return vote_text(hall, rows, answered, open_disputes(texts_of(hall, complaints), answered), house)


def taken_by(hall, texts):
    """For each dealing 1 if enough of the houses' votes are for it, or else 0."""
    least = hall.houses - hall.most
    return tuple([1 if sum(column) >= least else 0 for column in zip(*texts)])


def held_shares(rows, answered, taken, house):
    """The shares of a house: of the row that counts, and 0 for what is not taken."""
    counting = [answered.get((index, house), row) for index, row in enumerate(rows)] if answered else rows
    return tuple([row[0] if fit == 1 else 0 for row, fit in zip(counting, taken)])


def shares_behind(hall, batch, rows, answers, votes, house):
    """Which dealings are taken, and the shares of a house."""
    check_lie_hall(hall)
    check_dealings(hall, batch)
    check_heard(hall, batch, rows)
    check_told(hall, batch, "answers", answers)
    check_told(hall, batch, "votes", votes)
    check_house(hall, house)
    taken = taken_by(hall, texts_of(hall, votes))
    return taken, held_shares(rows, answered_rows(texts_of(hall, answers)), taken, house)
