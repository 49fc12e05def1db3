"""What holds in every run: all shares of the free houses lie on polys, and their numbers are right."""

from evencoins.base.field import are_numbers, check_field, check_integer, is_ascending, is_integer
from evencoins.base.polys import evaluated, interpolated, is_poly
from evencoins.errors import InvalidInputs, InvalidNumber, Refused
from evencoins.plan.circuits import meaning_of
from evencoins.talk.given import free_of
from evencoins.talk.gauges import Fit, fit_at
from evencoins.talk.runs import check_run, committed_in, course_in

MOST_DEGREE = 20


def check_shares(field, shares, most):
    """Refuse what is no field with numbers at places and a degree."""
    check_field(field)
    if not isinstance(shares, dict) or not all([is_integer(place, 1, field - 1) for place in shares]):
        raise InvalidInputs("not a dict from places to numbers")
    if not are_numbers(field, tuple(shares.values())):
        raise InvalidInputs("not a dict from places to numbers")
    check_integer(most, 0, MOST_DEGREE)


def poly_at(field, shares, places):
    """The poly of least degree with the told values at the places."""
    return interpolated(field, places, [shares[place] for place in places])


def common_poly(field, shares, most):
    """Either a poly of at most this degree with all values, or places where none has them."""
    check_shares(field, shares, most)
    places = sorted(shares)
    base = places[:most + 1]
    poly = poly_at(field, shares, base)
    for place in places[most + 1:]:
        if evaluated(field, poly, place) != shares[place]:
            return "places", tuple(base + [place])
    return "poly", poly


def is_common_paper(field, shares, most, value):
    """Whether the value is such a poly, or such places, with its word."""
    check_shares(field, shares, most)
    if not isinstance(value, tuple) or len(value) != 2:
        return False
    word, part = value
    if word == "poly":
        if not is_poly(field, part) or len(part) > most + 1:
            return False
        return all([evaluated(field, part, place) == shares[place] for place in shares])
    if word != "places" or not is_ascending(part, 1, field - 1) or len(part) != most + 2:
        return False
    return all([place in shares for place in part]) and len(poly_at(field, shares, part)) == most + 2


class Facts:
    """What all houses of a course have at its end, and the polys of the free ones."""

    def __init__(self, course):
        hall = course.room
        self.course = course
        self.free = free_of(hall, course.frame.foe)
        self.fit = fit_at(hall.field, hall.gauge.units, self.free, hall.most)
        # At how many places a word of dealt numbers must lie on a poly: at the others houses can lie.
        self.bound = hall.places if hall.kind == "look" else self.free

    def number_of(self, word):
        """The number at 0 of the poly on which the free houses' entries of a word lie, or None."""
        return self.fit.number_among(word, 0)

    def dealt_numbers(self, batch):
        """The numbers of all dealings of a batch, None for those without one."""
        return [self.number_of(column) for column in self.course.dealings[batch][0]]

    def gate_number(self, gate):
        """The number of a gate, or None."""
        return self.number_of(self.course.words[gate])

    def taken_by_free(self, batch, index):
        """Whether each free house has taken a dealing."""
        taken = self.course.dealings[batch][1]
        return [taken is None or taken[house - 1][index] == 1 for house in self.free]


def facts_of(run):
    """The facts of what is refused unless it is a run."""
    check_run(run)
    return Facts(course_in(run))


def batch_pairs(course):
    """The list of the tuples (batch, index, gate, dealer) of all dealings, ascending."""
    return [(batch, index, gate, dealer) for batch, pairs in enumerate(course.talk.batches)
            for index, (gate, dealer) in enumerate(pairs)]


def dealt_by(course, batch, index, gate, dealer):
    """What a house that follows the rules deals."""
    if batch == 0:
        return course.given[index]
    one, other = course.net.gates[gate][1:]
    return course.words[one][dealer - 1] * course.words[other][dealer - 1] % course.room.field


def is_dealt(facts, number, batch, index, gate, dealer):
    """Whether the sentence of dealings is true of one of them, which has this number."""
    taken = facts.taken_by_free(batch, index)
    if number is None or any([mark != taken[0] for mark in taken]):
        return False
    if dealer in facts.free:
        return taken[0] and number == dealt_by(facts.course, batch, index, gate, dealer)
    return taken[0] or number == 0


def first_of(word, broken):
    """The first broken sentence of a word, or None."""
    return (word,) + broken[0] if broken else None


def dealt_fault(facts):
    """The least dealing for which the sentence of dealings is broken."""
    numbers = [number for batch in range(len(facts.course.dealings)) for number in facts.dealt_numbers(batch)]
    return first_of("dealt", [row[:2] for row, number in zip(batch_pairs(facts.course), numbers)
                              if not is_dealt(facts, number, *row)])


def poly_fault(facts):
    """The least gate whose shares do not lie on a poly."""
    gates = range(len(facts.course.words))
    return first_of("poly", [(gate,) for gate in gates if facts.gate_number(gate) is None])


def word_of_product(facts, gate):
    """The numbers of the dealings for a product, by all houses, which deal one behind the other."""
    many = facts.course.room.houses
    for level, gates in enumerate(facts.course.net.levels):
        if gate in gates:
            first = gates.index(gate) * many
            return tuple(facts.dealt_numbers(level + 1)[first:first + many])
    return ()


def products_of(circuit):
    """The ascending list of the product gates."""
    return sorted([gate for level in circuit.levels for gate in level])


def errors_fault(facts):
    """The least product whose word is not that of a poly where nobody can lie."""
    hall = facts.course.room
    fit = fit_at(hall.field, hall.gauge.units, facts.bound, 2 * hall.most)
    return first_of("errors", [(gate,) for gate in products_of(facts.course.net)
                               if fit.number_among(word_of_product(facts, gate), 0) is None])


def meaning_fault(facts):
    """The least gate whose number is not what the circuit makes of the committed inputs."""
    course = facts.course
    numbers = meaning_of(course.room.field, course.net.gates, committed_in(course))
    return first_of("meaning", [(gate,) for gate, number in enumerate(numbers) if facts.gate_number(gate) != number])


def told_fault(facts):
    """The least output of a free house that is not the number of its gate."""
    return first_of("told", [(index, house) for index, (gate, houses) in enumerate(facts.course.net.outputs)
                             for house in houses if house in facts.free
                             and facts.course.opened[house][index] != facts.gate_number(gate)])


def fault(run):
    """The first broken sentence, or None."""
    facts = facts_of(run)
    found = dealt_fault(facts) or poly_fault(facts) or errors_fault(facts)
    return found or meaning_fault(facts) or told_fault(facts)


def is_sound(run):
    """Whether no sentence is broken."""
    return fault(run) is None


def check_found(found):
    """Refuse a run with a fault."""
    if found is not None:
        raise Refused(found)


def check_gate(run, gate):
    """Refuse what is no product of the run."""
    check_run(run)
    check_integer(gate, 0, len(run.circuit.gates) - 1)
    if run.circuit.gates[gate][0] != "product":
        raise InvalidNumber(gate)


def truths(run):
    """The tuple of the numbers of all gates."""
    facts = facts_of(run)
    check_found(dealt_fault(facts) or poly_fault(facts))
    return tuple([facts.gate_number(gate) for gate in range(len(facts.course.words))])


def product_word(run, gate):
    """The numbers of the dealings for a product, by all houses."""
    check_gate(run, gate)
    facts = facts_of(run)
    check_found(dealt_fault(facts) or poly_fault(facts))
    return word_of_product(facts, gate)


def errors_in(run, gate):
    """The dict from the places at which the word of a product is off to by how much."""
    check_gate(run, gate)
    facts = facts_of(run)
    check_found(dealt_fault(facts) or poly_fault(facts) or errors_fault(facts))
    word = word_of_product(facts, gate)
    hall = run.hall
    base = facts.bound[:2 * hall.most + 1]
    others = tuple([house for house in hall.places if house not in base])
    fit = Fit(hall.field, hall.gauge.units, base, others)
    values = {house: fit.value_in(word, house) for house in others}
    return {house: (word[house - 1] - values[house]) % hall.field for house in others
            if word[house - 1] != values[house]}
