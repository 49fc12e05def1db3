"""What was told in a course: the letters by their keys, what a lot sees, and what each house heard."""

from evencoins.talk.frames import SAME_WORDS
from evencoins.talk.halls import WALL_WORDS


def said_to(course, ways):
    """The list of what is said by the rules to some houses, and on the wall, by ascending keys."""
    senders = [sender - 1 for sender, goal in ways]
    spots = [(sender - 1, goal - 1) for sender, goal in ways]
    found = []
    for entry, part in zip(course.talk.plan, course.said):
        if entry[0] in WALL_WORDS:
            found.extend(part)
        elif entry[0] in SAME_WORDS:
            found.extend([part[sender] for sender in senders])
        else:
            found.extend([part[sender][goal] for sender, goal in spots])
    return found


def letters_told(course):
    """The dict from (round, from, to) to letters, and texts with 0, as they were told."""
    frame = course.frame
    ways = frame.ways_to(course.talk.room.places)
    table = dict(zip(frame.keys_of(ways), said_to(course, ways)))
    for key, value in frame.table.items():
        table[key] = value
    return table


def heard_by_lot(course):
    """The tuple of all letters to the lot, and texts, as they were told, without their keys."""
    frame = course.frame
    told = said_to(course, frame.lot_ways)
    if frame.seen_lies:
        return tuple([frame.seen_lies.get(key, letter) for key, letter in zip(frame.lot_keys, told)])
    return tuple(told)


def view_with(course, letters):
    """The view of a lot that heard these letters and texts: with its inputs and its coins."""
    circuit, frame = course.talk.net, course.frame
    given = [(gate, number) for gate, number, house in zip(circuit.inputs, course.given, circuit.houses)
             if house in frame.foe]
    drawn = [(house, course.drawn[house]) for house in frame.foe]
    return tuple(given), tuple(drawn), tuple(zip(frame.lot_keys, letters))


def view_of(course):
    """The lot's inputs, its coins, and all letters to it and texts."""
    return view_with(course, heard_by_lot(course))


def columns_in(word, part, lies):
    """For each house what all houses told it in a round, by houses: on the wall, and to itself, what they said."""
    if word in WALL_WORDS or word in SAME_WORDS:
        found = [part] * len(part)
    else:
        found = list(zip(*part))
    for sender, goal, value in lies:
        goals = [goal] if goal > 0 else list(range(1, len(part) + 1))
        for house in goals:
            column = list(found[house - 1])
            column[sender - 1] = value
            found[house - 1] = column
    return found


def columns_by_all(course):
    """For each house the list of the pairs of the word of a round and of what all houses told it then, by houses."""
    lied = course.frame.lied
    words = [entry[0] for entry in course.talk.plan]
    rows = [columns_in(word, part, lied.get(number, ()))
            for number, (word, part) in enumerate(zip(words, course.said), start=1)]
    return [list(zip(words, columns)) for columns in zip(*rows)]


def view_by_columns(places, own, columns):
    """What a house has heard, round by round, by such pairs."""
    found = []
    for word, column in columns:
        told = dict(zip(places, column))
        if word in WALL_WORDS:
            found.append(({}, told))
        else:
            del told[own]
            found.append((told, {}))
    return tuple(found)
