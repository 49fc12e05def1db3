"""What holds in every run: all shares of the free houses lie on polys, and their numbers are right."""

from evencoins.base.field import are_numbers, check_field, check_integer, is_ascending, is_integer
from evencoins.base.polys import evaluated, interpolated, is_poly
from evencoins.errors import InvalidInputs, InvalidNumber, Refused
from evencoins.plan.circuits import meaning_of
from evencoins.talk.courses import free_of
from evencoins.talk.gauges import Fit, fit_at
from evencoins.talk.halls import batches_of
from evencoins.talk.runs import check_run

MOST_DEGREE = 20


def check_shares(field, shares, most):
    """Refuse what is no field with numbers at places and a degree."""
    check_field(field)
    if not isinstance(shares, dict) or not all([is_integer(place, 1, field - 1) for place in shares]):
        raise InvalidInputs("not a dict from places to numbers")
    if not are_numbers(field, tuple(shares.values())):
        raise InvalidInputs("not a dict from places to numbers")
    check_integer(most, 0, MOST_DEGREE)


def poly_at(field, shares, places):
    """The poly of least degree with the told values at the places."""
    return interpolated(field, places, [shares[place] for place in places])


def common_poly(field, shares, most):
    """Either a poly of at most this degree with all values, or places where none has them."""
    check_shares(field, shares, most)
    places = sorted(shares)
    base = places[:most + 1]
    poly = poly_at(field, shares, base)
    for place in places[most + 1:]:
        if evaluated(field, poly, place) != shares[place]:
            return "places", tuple(base + [place])
    return "poly", poly


def is_common_paper(field, shares, most, value):
    """Whether the value is such a poly, or such places, with its word."""
    check_shares(field, shares, most)
    if not isinstance(value, tuple) or len(value) != 2:
        return False
    word, part = value
    if word == "poly":
        if not is_poly(field, part) or len(part) > most + 1:
            return False
        return all([evaluated(field, part, place) == shares[place] for place in shares])
    if word != "places" or not is_ascending(part, 1, field - 1) or len(part) != most + 2:
        return False
    return all([place in shares for place in part]) and len(poly_at(field, shares, part)) == most + 2


class Facts:
    """What all houses of a run have at its end, and the polys of the free ones."""

    def __init__(self, run):
        hall = run.hall
        self.free = free_of(hall, run.lot)
        self.words = run.shares
        self.entries = {house: each.dealt for house, each in run.houses.items()}
        self.marks = {house: {pair: True for pair in each.taken} for house, each in run.houses.items()}
        self.fit = fit_at(hall.field, self.free, hall.most)
        # At how many places a word of dealt numbers must lie on a poly: at the others houses can lie.
        self.bound = hall.places if hall.kind == "look" else self.free

    def number_of(self, word):
        """The number at 0 of the poly on which the free houses' entries of a word lie, or None."""
        return self.fit.number_among(word, 0)

    def dealt_number(self, pair):
        """The number of a dealing, or None."""
        return self.number_of([self.entries[house][pair] for house in self.entries])

    def gate_number(self, gate):
        """The number of a gate, or None."""
        return self.number_of(self.words[gate])


def batch_pairs(run):
    """The list of the tuples (batch, index, gate, dealer) of all dealings, ascending."""
    return [(batch, index, gate, dealer) for batch, pairs in enumerate(batches_of(run.hall, run.circuit))
            for index, (gate, dealer) in enumerate(pairs)]


def dealt_by(run, facts, batch, index, gate, dealer):
    """What a house that follows the rules deals."""
    if batch == 0:
        return run.inputs[index]
    one, other = run.circuit.gates[gate][1:]
    return facts.words[one][dealer - 1] * facts.words[other][dealer - 1] % run.hall.field


def is_dealt(run, facts, batch, index, gate, dealer):
    """Whether the sentence of dealings is true of one of them."""
    taken = [(batch, index) in facts.marks[house] for house in facts.free]
    number = facts.dealt_number((batch, index))
    if number is None or any([mark != taken[0] for mark in taken]):
        return False
    if dealer in facts.free:
        return taken[0] and number == dealt_by(run, facts, batch, index, gate, dealer)
    return taken[0] or number == 0


def first_of(word, broken):
    """The first broken sentence of a word, or None."""
    return (word,) + broken[0] if broken else None


def dealt_fault(run, facts):
    """The least dealing for which the sentence of dealings is broken."""
    return first_of("dealt", [row[:2] for row in batch_pairs(run) if not is_dealt(run, facts, *row)])


def poly_fault(run, facts):
    """The least gate whose shares do not lie on a poly."""
    return first_of("poly", [(gate,) for gate in facts.words if facts.gate_number(gate) is None])


def word_of_product(run, facts, gate):
    """The numbers of the dealings for a product, by all houses."""
    return tuple([facts.dealt_number((batch, index)) for batch, index, each, dealer in batch_pairs(run)
                  if batch > 0 and each == gate])


def products_of(circuit):
    """The ascending list of the product gates."""
    return sorted([gate for level in circuit.levels for gate in level])


def errors_fault(run, facts):
    """The least product whose word is not that of a poly where nobody can lie."""
    fit = fit_at(run.hall.field, facts.bound, 2 * run.hall.most)
    return first_of("errors", [(gate,) for gate in products_of(run.circuit)
                               if fit.number_among(word_of_product(run, facts, gate), 0) is None])


def meaning_fault(run, facts):
    """The least gate whose number is not what the circuit makes of the committed inputs."""
    numbers = meaning_of(run.hall.field, run.circuit.gates, run.committed)
    return first_of("meaning", [(gate,) for gate, number in enumerate(numbers) if facts.gate_number(gate) != number])


def told_fault(run, facts):
    """The least output of a free house that is not the number of its gate."""
    outputs = run.circuit.outputs
    return first_of("told", [(index, house) for (index, house), number in run.outputs.items()
                             if house in facts.free and number != facts.gate_number(outputs[index][0])])


def fault(run):
    """The first broken sentence, or None."""
    check_run(run)
    facts = Facts(run)
    found = dealt_fault(run, facts) or poly_fault(run, facts) or errors_fault(run, facts)
    return found or meaning_fault(run, facts) or told_fault(run, facts)


def is_sound(run):
    """Whether no sentence is broken."""
    return fault(run) is None


def check_found(found):
    """Refuse a run with a fault."""
    if found is not None:
        raise Refused(found)


def check_gate(run, gate):
    """Refuse what is no product of the run."""
    check_run(run)
    check_integer(gate, 0, len(run.circuit.gates) - 1)
    if run.circuit.gates[gate][0] != "product":
        raise InvalidNumber(gate)


def truths(run):
    """The tuple of the numbers of all gates."""
    check_run(run)
    facts = Facts(run)
    check_found(dealt_fault(run, facts) or poly_fault(run, facts))
    return tuple([facts.gate_number(gate) for gate in facts.words])


def product_word(run, gate):
    """The numbers of the dealings for a product, by all houses."""
    check_gate(run, gate)
    facts = Facts(run)
    check_found(dealt_fault(run, facts) or poly_fault(run, facts))
    return word_of_product(run, facts, gate)


def errors_in(run, gate):
    """The dict from the places at which the word of a product is off to by how much."""
    check_gate(run, gate)
    facts = Facts(run)
    check_found(dealt_fault(run, facts) or poly_fault(run, facts) or errors_fault(run, facts))
    word = word_of_product(run, facts, gate)
    hall = run.hall
    base = facts.bound[:2 * hall.most + 1]
    others = tuple([house for house in hall.places if house not in base])
    fit = Fit(hall.field, base, others)
    values = {house: fit.value_in(word, house) for house in others}
    return {house: (word[house - 1] - values[house]) % hall.field for house in others
            if word[house - 1] != values[house]}
