"""Talks from the first round to the last one, with the lies of a lot: what all say, and what they know at the end."""

from evencoins.base.field import are_numbers, is_ascending
from evencoins.errors import InvalidCoins, InvalidInputs, InvalidLot
from evencoins.plan.circuits import are_inputs
from evencoins.talk.halls import WALL_WORDS, is_house, needed_coins
from evencoins.talk.seats import Seat


def check_inputs(hall, circuit, inputs):
    """Refuse what has not a number for each input."""
    if not are_inputs(hall.field, circuit, inputs):
        raise InvalidInputs("not a number for each input of the circuit")


def are_coins(hall, circuit, houses, value):
    """Whether the value is a dict from just these houses to as many numbers as each needs."""
    if not isinstance(value, dict) or len(value) != len(houses):
        return False
    for house in value:
        if not is_house(hall, house) or house not in houses or not are_numbers(hall.field, value[house]):
            return False
        if len(value[house]) != needed_coins(hall, circuit, house):
            return False
    return True


def check_all_coins(hall, circuit, houses, coins):
    """Refuse what are not the coins of these houses."""
    if not are_coins(hall, circuit, houses, coins):
        raise InvalidCoins("not just as many coins for each house as it needs")


def is_foe(hall, lot, without):
    """Whether the value is a lot, which can have one house more if the bound is left out."""
    most = hall.most + 1 if without == "bound" else hall.most
    return is_ascending(lot, 1, hall.houses) and len(lot) <= most


def check_foe(hall, lot, without):
    """Refuse what is no lot."""
    if not is_foe(hall, lot, without):
        raise InvalidLot("not a lot of the hall")


def free_of(hall, lot):
    """The ascending tuple of the houses that are not in the lot."""
    return tuple([house for house in hall.places if house not in lot])


def own_inputs(circuit, inputs, house):
    """The inputs of a house."""
    return tuple([number for number, owner in zip(inputs, circuit.houses) if owner == house])


def by_rounds(lies):
    """The dict from rounds to the lists of their lies: sender, goal and what is told."""
    found = {}
    for number, sender, goal in lies:
        found.setdefault(number, []).append((sender, goal, lies[(number, sender, goal)]))
    return found


def behind_letters(seats, memories, lies):
    """The memories behind a round over lines."""
    heard = {house: {other: memories[other]["letters"][house] for other in memories} for house in memories}
    for sender, goal, value in lies:
        heard[goal][sender] = seats[goal].counted_from(memories[goal], sender, value)
    return {house: seats[house].behind(memories[house], heard[house]) for house in memories}


def behind_texts(seats, memories, lies):
    """The memories behind a round on the wall; for each house its own text counts as it made it."""
    made = {house: memories[house]["text"] for house in memories}
    heard = {house: made[house] for house in made}
    for sender, goal, value in lies:
        heard[sender] = seats[sender].counted_from(memories[sender], sender, value)
    return {house: seats[house].behind(memories[house], {**heard, house: made[house]}) for house in memories}


class Course:
    """What is said in all rounds of a talk, and what all houses know behind the last one.

    What is said is for each round a dict from houses to letters, as dicts, or to texts: all by the rules.
    """

    def __init__(self, talk, inputs, coins, lot, lies):
        self.talk = talk
        self.given = inputs
        self.drawn = coins
        self.foe = lot
        self.table = lies
        self.seats = {house: Seat(talk, house, own_inputs(talk.circuit, inputs, house), coins[house])
                      for house in talk.hall.places}
        self.said = []
        self.memories = {house: seat.first_memory() for house, seat in self.seats.items()}
        self.go()

    def __eq__(self, other):
        if not isinstance(other, Course) or self.talk != other.talk or self.given != other.given:
            return False
        return self.drawn == other.drawn and self.foe == other.foe and self.table == other.table

    def go(self):
        """Go through all rounds."""
        lies = by_rounds(self.table)
        for number, entry in enumerate(self.talk.plan, start=1):
            told = lies.get(number, [])
            if entry[0] in WALL_WORDS:
                self.said.append({house: memory["text"] for house, memory in self.memories.items()})
                self.memories = behind_texts(self.seats, self.memories, told)
            else:
                self.said.append({house: memory["letters"] for house, memory in self.memories.items()})
                self.memories = behind_letters(self.seats, self.memories, told)


def heard_by(course, number, goals):
    """The list of the pairs (key, letter) of all that is told these houses, or all, in a round, by ascending keys."""
    said = course.said[number - 1]
    found = []
    for sender in said:
        if course.talk.plan[number - 1][0] in WALL_WORDS:
            parts = {0: said[sender]}
        else:
            parts = {goal: said[sender][goal] for goal in goals if goal != sender}
        for goal, letter in parts.items():
            key = (number, sender, goal)
            found.append((key, course.table.get(key, letter)))
    return found


def view_of(course):
    """The lot's inputs, its coins, and all letters to it and texts."""
    circuit = course.talk.circuit
    given = [(gate, number) for gate, number, house in zip(circuit.inputs, course.given, circuit.houses)
             if house in course.foe]
    letters = [pair for number in range(1, len(course.said) + 1) for pair in heard_by(course, number, course.foe)]
    return tuple(given), tuple([(house, course.drawn[house]) for house in course.foe]), tuple(letters)
