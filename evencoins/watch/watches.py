"""Watches: numbers that are shared, refreshed and mended, and what a foe that moves sees of it."""

from evencoins.base.field import are_numbers, is_ascending
from evencoins.base.polys import evaluated, evaluated_at_all, hiding_poly, multiplied, padded, without_root
from evencoins.errors import InvalidCoins, InvalidHall, InvalidLot, InvalidWatch, InvalidWord, Refused, TooMany
from evencoins.talk.gauges import Fit
from evencoins.talk.halls import Hall, check_house

MOST_KEPT = 4
MOST_ACTS = 12


def check_look_hall(hall):
    """Refuse what is no hall in which houses look."""
    if not isinstance(hall, Hall) or hall.kind != "look":
        raise InvalidHall("not a hall in which houses look")


def are_coin_rows(hall, value, many):
    """Whether the value is a tuple of so many rows of as many coins as may be led."""
    if not isinstance(value, tuple) or len(value) != many:
        return False
    return all([are_numbers(hall.field, row) and len(row) == hall.most for row in value])


def check_house_coins(hall, value, houses, many):
    """Refuse what has not so many rows of coins for each of so many houses."""
    if not isinstance(value, tuple) or len(value) != houses:
        raise InvalidCoins("not rows of coins for each house")
    if not all([are_coin_rows(hall, rows, many) for rows in value]):
        raise InvalidCoins("not rows of coins for each house")


def others_of(hall, house):
    """All houses but this one."""
    return [other for other in hall.places if other != house]


def refreshing_poly(row):
    """What a house deals for a number in a refresh: 0 at 0."""
    return (0,) + row


def mending_poly(field, house, row):
    """What a house deals for a number in the mending of a house: 0 at this one."""
    return multiplied(field, (-house % field, 1), row)


def refreshed_shares(hall, shares, coins):
    """The shares behind a refresh: all that is dealt for a number is one poly, by the sums of the coins."""
    found = []
    for index, word in enumerate(shares):
        rows = [each[index] for each in coins]
        total = tuple([sum(column) % hall.field for column in zip(*rows)])
        pieces = evaluated_at_all(hall.field, refreshing_poly(total), hall.places)
        found.append(tuple([(share + piece) % hall.field for share, piece in zip(word, pieces)]))
    return tuple(found)


class Watch:
    """Numbers that are kept by all houses together. It never changes: each act gives another one."""

    def __init__(self, hall, numbers, coins):
        check_look_hall(hall)
        if not are_numbers(hall.field, numbers) or not 1 <= len(numbers) <= MOST_KEPT:
            raise InvalidWord("not the numbers to be kept")
        if not are_coin_rows(hall, coins, len(numbers)):
            raise InvalidCoins("not a row of coins for each number")
        self._hall = hall
        self._numbers = numbers
        self._coins = coins
        self._epoch = 0
        self._shares = tuple([tuple(evaluated_at_all(hall.field, (number,) + row, hall.places))
                              for number, row in zip(numbers, coins)])
        self._acts = ()

    @property
    def hall(self):
        """The hall."""
        return self._hall

    @property
    def numbers(self):
        """The numbers that are kept."""
        return self._numbers

    @property
    def coins(self):
        """The rows of coins with which they were shared."""
        return self._coins

    @property
    def epoch(self):
        """How many refreshes there were."""
        return self._epoch

    @property
    def shares(self):
        """The shares, by numbers and then by houses."""
        return self._shares

    @property
    def acts(self):
        """The tuple of all refreshes and mendings."""
        return self._acts

    def __eq__(self, other):
        if not isinstance(other, Watch) or self._hall != other._hall or self._numbers != other._numbers:
            return False
        return self._coins == other._coins and self._acts == other._acts

    def __str__(self):
        return f"watch of {len(self._numbers)} numbers in epoch {self._epoch}"

    def refreshed(self, coins):
        """The watch behind a refresh with these coins of all houses."""
        check_house_coins(self._hall, coins, self._hall.houses, len(self._numbers))
        check_acts(self)
        later = Watch(self._hall, self._numbers, self._coins)
        later._epoch = self._epoch + 1
        later._shares = refreshed_shares(self._hall, self._shares, coins)
        later._acts = self._acts + (("refresh", coins),)
        return later

    def mended(self, house, coins):
        """The watch behind the mending of a house with these coins of the others; no share changes."""
        check_house(self._hall, house)
        check_house_coins(self._hall, coins, self._hall.houses - 1, len(self._numbers))
        check_acts(self)
        later = Watch(self._hall, self._numbers, self._coins)
        later._epoch = self._epoch
        later._shares = self._shares
        later._acts = self._acts + (("mend", house, coins),)
        return later


def check_acts(watch):
    """Refuse one act more than there can be."""
    if len(watch.acts) >= MOST_ACTS:
        raise TooMany(MOST_ACTS)


def check_watch(watch):
    """Refuse what is no watch."""
    if not isinstance(watch, Watch):
        raise InvalidWatch("not a watch")


def is_move(hall, value):
    """Whether the value is a pair of ascending tuples of houses."""
    if not isinstance(value, tuple) or len(value) != 2:
        return False
    return is_ascending(value[0], 1, hall.houses) and is_ascending(value[1], 1, hall.houses)


def check_foe(hall, foe, least, most):
    """Refuse what is no foe that moves for so many epochs."""
    if not isinstance(foe, tuple) or not least <= len(foe) <= most:
        raise InvalidLot("not a pair for each epoch")
    if not all([is_move(hall, pair) for pair in foe]) or foe[-1][1] != ():
        raise InvalidLot("not pairs of ascending tuples of houses, or a refresh behind the last epoch")


def check_foe_of(watch, foe):
    """Refuse what is no watch with a foe for its epochs."""
    check_watch(watch)
    check_foe(watch.hall, foe, watch.epoch + 1, watch.epoch + 1)


def check_other_numbers(watch, numbers):
    """Refuse what are not as many numbers as are kept."""
    if not are_numbers(watch.hall.field, numbers) or len(numbers) != len(watch.numbers):
        raise InvalidWord("not as many numbers as are kept")


def seen_houses(foe):
    """For each epoch the houses whose shares are seen."""
    found = []
    ahead = ()
    for now, behind in foe:
        found.append(tuple(sorted(set(now + behind + ahead))))
        ahead = behind
    return found


def epoch_shares(watch):
    """The list of the shares in all epochs."""
    found = [Watch(watch.hall, watch.numbers, watch.coins).shares]
    for act in watch.acts:
        if act[0] == "refresh":
            found.append(refreshed_shares(watch.hall, found[-1], act[1]))
    return found


def dealt_rows(hall, act):
    """The dict from the dealers of an act to their rows of coins."""
    houses = hall.places if act[0] == "refresh" else others_of(hall, act[1])
    return {house: rows for house, rows in zip(houses, act[-1])}


def dealt_poly(hall, act, row):
    """The poly that a row of coins deals in an act."""
    return refreshing_poly(row) if act[0] == "refresh" else mending_poly(hall.field, act[1], row)


def seen_of_dealings(hall, index, act, goals):
    """What houses see of the dealings of an act: their own coins, and the pieces for them."""
    found = {}
    for dealer, rows in dealt_rows(hall, act).items():
        for k, row in enumerate(rows):
            if dealer in goals:
                found[("coins", index, dealer, k)] = row
            poly = dealt_poly(hall, act, row)
            for goal in goals:
                found[("piece", index, dealer, goal, k)] = evaluated(hall.field, poly, goal)
    return found


def sums_told(hall, index, act, shares):
    """What a house that is mended is told by all others."""
    found = {}
    dealings = list(dealt_rows(hall, act).values())
    for teller in others_of(hall, act[1]):
        for k, word in enumerate(shares):
            pieces = [evaluated(hall.field, dealt_poly(hall, act, rows[k]), teller) for rows in dealings]
            found[("sum", index, teller, k)] = (word[teller - 1] + sum(pieces)) % hall.field
    return found


def seen_parts(watch, foe):
    """The dict of all that is seen, in no sequence."""
    hall = watch.hall
    shares = epoch_shares(watch)
    found = {("share", at, house, k): word[house - 1] for at, houses in enumerate(seen_houses(foe))
             for house in houses for k, word in enumerate(shares[at])}
    epoch = 0
    for index, act in enumerate(watch.acts):
        now, behind = foe[epoch]
        if act[0] == "refresh":
            found.update(seen_of_dealings(hall, index, act, behind))
            epoch += 1
        else:
            found.update(seen_of_dealings(hall, index, act, [house for house in now if house != act[1]]))
            if act[1] in now:
                found.update(sums_told(hall, index, act, shares[epoch]))
    return found


def seen(watch, foe):
    """The dict of all that the foe sees."""
    check_foe_of(watch, foe)
    found = seen_parts(watch, foe)
    return {key: found[key] for key in sorted(found)}


def widths(hall, foe):
    """For each epoch how many houses' shares are seen."""
    check_look_hall(hall)
    check_foe(hall, foe, 1, MOST_ACTS + 1)
    return tuple([len(houses) for houses in seen_houses(foe)])


def numbers_told(watch, foe):
    """The numbers that the shares of the first epoch in which enough are seen tell."""
    check_foe_of(watch, foe)
    hall = watch.hall
    for houses, shares in zip(seen_houses(foe), epoch_shares(watch)):
        if len(houses) > hall.most:
            fit = Fit(hall.field, hall.gauge.units, houses[:hall.most + 1], ())
            return tuple([fit.number_in(word) for word in shares])
    raise Refused(("even",))


def with_more(field, row, change, poly):
    """The row of coins, with the numbers of a poly so often more."""
    return tuple([(coin + change * x) % field for coin, x in zip(row, padded(poly, len(row)))])


def changed_act(hall, act, dealer, polys):
    """An act in which one dealer deals more: for each number the coins of a poly, as a pair of a factor and a row."""
    houses = list(dealt_rows(hall, act))
    rows = list(act[-1])
    place = houses.index(dealer)
    rows[place] = tuple([with_more(hall.field, row, change, poly) for row, (change, poly) in zip(rows[place], polys)])
    return act[:-1] + (tuple(rows),)


def least_other(hall, houses):
    """The least house that is none of these."""
    return [house for house in hall.places if house not in houses][0]


def exchanged_act(hall, act, changes, now, behind, hidings):
    """What stands in the place of an act; `hidings` are the hiding polys of its epoch, and of the next one."""
    if act[0] == "refresh":
        one = padded(hidings[0], hall.most + 1)
        other = padded(hidings[1], hall.most + 1)
        poly = tuple([(y - x) % hall.field for x, y in zip(one, other)])[1:]
        return changed_act(hall, act, least_other(hall, behind), [(change, poly) for change in changes])
    if act[1] not in now:
        return act
    poly = without_root(hall.field, hidings[0], act[1])
    return changed_act(hall, act, least_other(hall, now), [(-change, poly) for change in changes])


def exchanged(watch, foe, numbers):
    """The watch of other numbers of which the foe sees the same."""
    check_foe_of(watch, foe)
    check_other_numbers(watch, numbers)
    hall = watch.hall
    wide = [epoch for epoch, houses in enumerate(seen_houses(foe)) if len(houses) > hall.most]
    if wide:
        raise Refused(("wide", wide[0]))
    hidings = [hiding_poly(hall.field, houses) for houses in seen_houses(foe)]
    changes = [(number - kept) % hall.field for kept, number in zip(watch.numbers, numbers)]
    coins = tuple([with_more(hall.field, row, change, hidings[0][1:]) for row, change in zip(watch.coins, changes)])
    later = Watch(hall, numbers, coins)
    for act in watch.acts:
        now, behind = foe[later.epoch]
        other = exchanged_act(hall, act, changes, now, behind, hidings[later.epoch:later.epoch + 2])
        later = later.refreshed(other[1]) if act[0] == "refresh" else later.mended(other[1], other[2])
    return later


def acts_without_coins(watch):
    """The words and the houses of all acts."""
    return [act[:-1] for act in watch.acts]


def is_exchange(watch, foe, numbers, value):
    """Whether the value is a watch of these numbers of which the foe sees the same."""
    check_foe_of(watch, foe)
    check_other_numbers(watch, numbers)
    if not isinstance(value, Watch) or value.hall != watch.hall or value.numbers != numbers:
        return False
    if acts_without_coins(value) != acts_without_coins(watch):
        return False
    return seen_parts(value, foe) == seen_parts(watch, foe)
