"""How all houses of a course come to hold the texts of all: by the wall, or by kings over lines."""

from evencoins.talk.kings import held_behind, most_in_columns


def with_parts(row, parts):
    """The tuple of what all houses tell, with the parts of some senders in the place of theirs."""
    found = list(row)
    for sender, part in parts.items():
        found[sender - 1] = part
    return tuple(found)


def all_alike(values, many):
    """Rows in which each house tells the same to all houses."""
    return [(value,) * many for value in values]


def seen_by_all(course, texts):
    """What each house holds behind a round on the wall: of its own text what it made, of others what they told."""
    number = course.says(texts)
    many = len(texts)
    made = tuple(texts)
    if number not in course.frame.lied:
        return [made] * many
    # On the wall the goal is 0, which is the last place, and all places have the text.
    parts = course.frame.changes(number, all_alike(texts, many)).get(0, {})
    told = with_parts(made, parts)
    return [with_parts(told, {house: made[house - 1]}) if house in parts else told for house in range(1, many + 1)]


def behind_say(course, texts):
    """What each house holds behind the round in which all tell their texts."""
    number = course.says(texts)
    many = len(texts)
    held = [tuple(texts)] * many
    if number in course.frame.lied:
        for goal, parts in course.frame.changes(number, all_alike(texts, many)).items():
            held[goal - 1] = with_parts(held[goal - 1], parts)
    return held


def behind_tell(course, held):
    """For each house the most heard ones of the texts that all tell that they hold, with how many told it."""
    number = course.says(held)
    many = len(held)
    found = [most_in_columns(held)] * many
    if number in course.frame.lied:
        for goal, parts in course.frame.changes(number, all_alike(held, many)).items():
            found[goal - 1] = most_in_columns(with_parts(held, parts))
    return found


def behind_king(course, phase, held, heard):
    """What each house holds when it has heard the king of the phase, and the most heard texts ahead of him."""
    many = len(held)
    known = heard[phase - 1]
    right = tuple([text for text, times in known])
    letters = [()] * many
    letters[phase - 1] = right
    number = course.says(letters)
    lies = course.frame.changes(number, all_alike(letters, many)) if number in course.frame.lied else {}
    hall = course.talk.room
    if phase > hall.most and course.talk.lacks == "king":
        return held
    # Who has heard what the king has heard holds what he tells, whether it was heard from surely many or not.
    found = [right] * many
    if lies or heard.count(known) < many:
        for house, pairs in zip(hall.places, heard):
            told = lies[house].get(phase, right) if house in lies else right
            if told != right or pairs != known:
                found[house - 1] = held_behind(hall, pairs, told)
    return found


def by_kings(course, texts):
    """What each house holds behind a talk of kings."""
    held = behind_say(course, texts)
    for phase in range(1, course.talk.room.most + 2):
        heard = behind_tell(course, held)
        held = behind_king(course, phase, held, heard)
    return held


def agreed_texts(course, texts):
    """For each house the tuple of what it holds of the texts of all, which all tell on the wall, or over lines."""
    return by_kings(course, texts) if course.talk.on_lines else seen_by_all(course, texts)
