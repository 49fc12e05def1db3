"""Talks from the first round to the last one, of all houses together: what all say, and what they know at the end."""

from evencoins.plan.cases import gate_row
from evencoins.talk.agreeing import agreed_texts, all_alike, with_parts
from evencoins.talk.dealing import answer_text, answered_rows, are_blank, by_places, complaints_about, held_shares
from evencoins.talk.dealing import open_disputes, taken_by, vote_text


def for_each(held, work):
    """What the work makes of what each house holds; once for equal ones that follow one another."""
    found = []
    for index, texts in enumerate(held):
        if index > 0 and texts == held[index - 1]:
            found.append(found[-1])
        else:
            found.append(work(texts))
    return found


class Course:
    """What is said in all rounds of a talk, and what all houses have behind the last one.

    All houses go together, so that what many of them hear alike is worked out once. `room` is the hall, `net` the
    circuit, `lacks` the rule that is left out, or None. `said` has for each round what is said by the rules: for each
    house one text or letter, if it is the same for all goals, or a row with one for each goal. `words` has for each
    gate the shares of all houses, `dealings` for each batch the shares of all houses of each dealing, and for each
    house what it took, or None if it takes all; `opened` has for each house the dict of the outputs that it is told.
    """

    def __init__(self, frame, inputs, coins):
        self.frame = frame
        self.talk = frame.talk
        self.room = frame.talk.room
        self.net = frame.talk.net
        self.lacks = frame.talk.lacks
        self.many = self.room.houses
        self.given = inputs
        self.drawn = coins
        self.said = []
        self.words = [()] * len(self.net.gates)
        self.dealings = []
        for batch in range(len(frame.slots)):
            self.go_through(batch)
        self.opened = self.open_outputs()

    def __eq__(self, other):
        if not isinstance(other, Course) or self.frame != other.frame:
            return False
        return self.given == other.given and self.drawn == other.drawn

    def says(self, part):
        """All say something; the number of the round."""
        self.said.append(part)
        return len(self.said)

    def go_through(self, batch):
        """The rounds of a batch, and what is worked out behind it."""
        secrets = self.secrets_in(batch)
        coins = [self.drawn[dealer][first:behind] for dealer, first, behind in self.frame.slots[batch]]
        if batch > 0 and self.lacks == "coins":
            coins = [(0,) * len(part) for part in coins]
        if self.room.kind == "look":
            known = self.known_looking(batch, secrets, coins)
        else:
            known = self.known_among_liars(batch, secrets, coins)
        for gate, word in zip(self.frame.fresh[batch], known):
            self.words[gate] = tuple(word)
        for index, gate in self.frame.stages[batch]:
            self.words[index] = tuple(gate_row(self.room.field, gate, self.words, self.many))

    def secrets_in(self, batch):
        """The numbers of all dealings of a batch."""
        if batch == 0:
            return self.given
        gates, field = self.net.gates, self.room.field
        found = []
        for index in self.frame.fresh[batch]:
            found.extend(gate_row(field, gates[index], self.words, self.many))
        return found

    def letters_of(self, batch, columns):
        """The rows of letters with which all houses deal; `columns` has what each dealing tells all houses."""
        return [by_places([columns[index] for index in own], self.many) for own in self.frame.own[batch]]

    def known_looking(self, batch, secrets, coins):
        """For each input, or each product of a level, the shares of all houses, in a hall in which houses look."""
        many, gauge = self.many, self.room.gauge
        columns = [gauge.shares_of(secret, part) for secret, part in zip(secrets, coins)]
        self.says(self.letters_of(batch, columns))
        self.dealings.append((columns, None))
        if batch == 0:
            return columns
        if self.lacks == "degree":
            return [secrets[first:first + many] for first in range(0, len(secrets), many)]
        parts = [columns[first:first + many] for first in range(0, len(columns), many)]
        return [[gauge.product_of(dealt, {}) for dealt in zip(*part)] for part in parts]

    def known_among_liars(self, batch, secrets, coins):
        """The same in a hall in which houses lie."""
        gauge = self.room.gauge
        rows = self.shared_among_liars(batch, [gauge.rows_of(secret, part) for secret, part in zip(secrets, coins)])
        return self.dealings[0][0] if batch == 0 else self.products_of(rows)

    def shared_among_liars(self, batch, columns):
        """The rows of the shares of all houses behind the five rounds, or more, of dealings that hold."""
        hall = self.room
        heard, changed = self.heard_rows(batch, columns)
        complaints = agreed_texts(self, self.complaints(heard, changed))
        answers = agreed_texts(self, self.answers(batch, columns, complaints))
        votes = agreed_texts(self, self.votes(heard, complaints, answers))
        if self.lacks == "votes":
            taken = [(1,) * len(columns)] * hall.houses
        else:
            taken = for_each(votes, lambda texts: taken_by(hall, texts))
        if self.lacks == "answers":
            rows = [{}] * hall.houses
        else:
            rows = for_each(answers, answered_rows)
        shares = [held_shares(row, answered, fit, house)
                  for house, row, answered, fit in zip(hall.places, heard, rows, taken)]
        self.dealings.append((list(zip(*shares)), taken))
        return shares

    def heard_rows(self, batch, columns):
        """For each house the rows that it heard, and the list of the houses to which others were told."""
        letters = self.letters_of(batch, columns)
        number = self.says(letters)
        heard = by_places(columns, self.many)
        lies = self.frame.changes(number, letters)
        for goal, parts in lies.items():
            rows = list(heard[goal - 1])
            for sender, part in parts.items():
                for index, row in zip(self.frame.own[batch][sender - 1], part):
                    rows[index] = row
            heard[goal - 1] = tuple(rows)
        return heard, list(lies)

    def complaints(self, heard, changed):
        """The texts of complaints of all houses, behind the round of points."""
        hall = self.room
        points = self.points(heard, changed)
        lies = self.frame.changes(self.says(points), points)
        if self.lacks == "complaints" or not changed and not lies:
            return [()] * hall.houses
        texts = []
        for house in hall.places:
            own, told = points[house - 1], lies.get(house, {})
            pairs = [(other, told.get(other, points[other - 1][house - 1]), own[other - 1])
                     for other in hall.places if other != house]
            unlike = [(other, one, made) for other, one, made in pairs if one != made]
            texts.append(complaints_about(unlike, len(heard[0])))
        return texts

    def points(self, heard, changed):
        """For each house its letters of points, none for itself.

        The rows of a square meet: what two houses with such rows tell one another is worked out once.
        """
        gauge = self.room.gauge
        table = gauge.points_among(heard)
        for one, points in enumerate(table):
            points.append(())
            for other in range(one + 1, len(heard)):
                if one + 1 in changed or other + 1 in changed:
                    points.append(gauge.points_of(heard[one], other + 1))
                else:
                    points.append(table[other][one])
        return table

    def answers(self, batch, columns, complaints):
        """The texts of answers of all houses, which hold these complaints."""
        texts = []
        for own, held in zip(self.frame.own[batch], complaints):
            dealt = {} if are_blank(held) else {index: columns[index] for index in own}
            texts.append(answer_text(self.room, dealt, held) if dealt else ())
        return texts

    def votes(self, heard, complaints, answers):
        """The texts of votes of all houses, which hold these rows and texts."""
        if all([are_blank(one) and are_blank(other) for one, other in zip(complaints, answers)]):
            return [(1,) * len(rows) for rows in heard]
        answered = for_each(answers, answered_rows)
        quarrels = for_each(list(zip(complaints, answered)), lambda pair: open_disputes(pair[0], pair[1]))
        return [vote_text(self.room, rows, one, other, house)
                for house, rows, one, other in zip(self.room.places, heard, answered, quarrels)]

    def products_of(self, rows):
        """For each product of a level the new shares of all houses, the errors being taken off."""
        many, gauge = self.many, self.room.gauge
        words = [[row[first:first + many] for first in range(0, len(row), many)] for row in rows]
        errors = self.errors_told([tuple([gauge.syndromes_of(word) for word in each]) for each in words])
        return [[gauge.product_of(each[at], off[at]) for each, off in zip(words, errors)]
                for at in range(len(words[0]))]

    def errors_told(self, letters):
        """For each house the errors of all products of a level, by the shares of their syndromes that all tell."""
        number = self.says(letters)
        lies = {}
        if number in self.frame.lied:
            lies = self.frame.changes(number, all_alike(letters, len(letters)))
        if self.lacks == "errors":
            return [[{}] * len(letters[0])] * len(letters)
        right = self.errors_in(letters)
        return [self.errors_in(with_parts(letters, lies[house])) if house in lies else right
                for house in self.room.places]

    def errors_in(self, letters):
        """The errors of all products of a level, by the shares of syndromes that a house heard."""
        hall = self.room
        found = []
        for at in range(len(letters[0])):
            rows = [letter[at] for letter in letters]
            told = [self.opened_number(word) for word in zip(*rows)]
            found.append(hall.gauge.errors_with(told, hall.most))
        return found

    def opened_number(self, word):
        """The number that the shares of all houses open."""
        hall = self.room
        if hall.kind == "look" or self.lacks == "nearest":
            return hall.gauge.first_number(word)
        return hall.gauge.main_number(word, hall.most)

    def open_outputs(self):
        """The dict from all houses to the dicts of the outputs that they are told, behind the last round."""
        goals = self.talk.goals
        words = [self.words[gate] for gate, houses in self.net.outputs]
        columns = [by_places([words[index] for index in goals[goal]], len(goals)) for goal in goals]
        letters = list(zip(*columns))
        number = self.says(letters)
        lies = self.frame.changes(number, letters) if number in self.frame.lied else {}
        right = [self.opened_number(word) for word in words]
        found = {}
        for goal, own in goals.items():
            if goal in lies:
                rows = with_parts(columns[goal - 1], lies[goal])
                heard = list(zip(*rows))
                found[goal] = {index: self.opened_number(word) for index, word in zip(own, heard)}
            else:
                found[goal] = {index: right[index] for index in own}
        return found
