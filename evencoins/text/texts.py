"""Texts of plain values, circuits and runs, and lies that are tight."""

from evencoins.errors import InvalidOperation, ParseError, Refused, TooMany
from evencoins.judge.schemes import Scheme
from evencoins.judge.sound import Facts
from evencoins.plan.circuits import Circuit, check_circuit
from evencoins.talk.courses import Course
from evencoins.talk.frames import Frame
from evencoins.talk.gauges import Fit, Gauge
from evencoins.talk.halls import Hall
from evencoins.talk.houses import House
from evencoins.talk.letters import MOST_LIES, is_plain
from evencoins.talk.runs import Run, check_run
from evencoins.talk.seats import Seat
from evencoins.talk.talks import Talk
from evencoins.text.lines import Lines, circuit_of_text, parts_in
from evencoins.text.reading import plain_in
from evencoins.watch.watches import Watch

MOST_TEXT = 200000


def text_of(value):
    """The text of what is known to be a plain value."""
    if isinstance(value, tuple):
        return "(" + ",".join([text_of(part) for part in value]) + ")"
    return "n" if value is None else str(value)


def plain_text(value):
    """The text of a plain value."""
    if not is_plain(value):
        raise InvalidOperation("not a plain value")
    return text_of(value)


def check_text(text):
    """Refuse what is no text, or too long."""
    if not isinstance(text, str) or len(text) > MOST_TEXT:
        raise InvalidOperation("not a text of at most 200,000 characters")


def read_plain(text):
    """The plain value of a text."""
    check_text(text)
    return plain_in(text)


def line_of(word, parts):
    """The line of a word and of what stands behind it."""
    return " ".join([word] + [str(part) for part in parts]) + "\n"


def lines_of_circuit(circuit):
    """The lines of a circuit."""
    gates = [line_of(gate[0], gate[1:]) for gate in circuit.gates]
    return gates + [line_of("tell", (gate,) + houses) for gate, houses in circuit.outputs]


def circuit_text(circuit):
    """The text of a circuit."""
    check_circuit(circuit)
    return "".join(lines_of_circuit(circuit))


def read_circuit(text):
    """The circuit of a text."""
    check_text(text)
    return circuit_of_text(text)


def line_of_hall(run):
    """The first line of a run."""
    hall = run.hall
    rest = ["lines"] if run.lines else []
    if run.without is not None:
        rest = rest + ["without", run.without]
    return line_of("hall", [hall.field, hall.houses, hall.most, hall.kind] + rest)


def run_text(run):
    """The text of a run."""
    check_run(run)
    rows = [line_of_hall(run)] + lines_of_circuit(run.circuit) + [line_of("inputs", run.inputs)]
    rows.extend([line_of("coins", (house,) + coins) for house, coins in run.coins.items()])
    rows.append(line_of("lot", run.lot))
    rows.extend([line_of("lie", key + (text_of(value),)) for key, value in run.lies.items()])
    return "".join(rows)


def run_with(parts):
    """The run of these parts."""
    return Run(parts["hall"], parts["circuit"], parts["inputs"], parts["coins"], without=parts["without"],
               lot=parts["lot"], lines=parts["lines"], lies=parts["lies"])


def read_run(text):
    """The run of a text."""
    check_text(text)
    return run_with(parts_in(text))


def is_run_text(value):
    """Whether the value is the text of a run."""
    if not isinstance(value, str):
        return False
    try:
        parts_in(value)
    except ParseError:
        return False
    return True


def with_lies(run, lies):
    """The run with these lies, and else the same parts."""
    return Run(run.hall, run.circuit, run.inputs, run.coins, without=run.without, lot=run.lot, lines=run.lines,
               lies=lies)


def without_lie(run, key):
    """The run without one of its lies."""
    return with_lies(run, {each: value for each, value in run.lies.items() if each != key})


def is_no_question(value):
    """Whether the value is one of those that can't be asked: objects of this package, too, can't be called."""
    if value is None or isinstance(value, (int, str, tuple, list, dict, Exception)):
        return True
    if isinstance(value, (Gauge, Fit, Talk, Frame, Course, Seat, Facts, Lines)):
        return True
    return isinstance(value, (Hall, Circuit, House, Run, Scheme, Watch))


def check_question(run, question):
    """Refuse what is no run, or no question that tells True of it."""
    check_run(run)
    if is_no_question(question) or question(run) is not True:
        raise InvalidOperation("not a question that tells True of the run")


def swept(run, question):
    """The run without the lies, from the last one to the first one, without which the question still tells True."""
    found = run
    for key in sorted(run.lies, reverse=True):
        other = without_lie(found, key)
        if question(other) is True:
            found = other
    return found


def tight(run, question):
    """The run with lies of which none can be left out, if the question is to tell True."""
    check_question(run, question)
    found = run
    fewer = swept(run, question)
    while len(fewer.lies) < len(found.lies):
        found = fewer
        fewer = swept(found, question)
    return found


def is_tight(run, question):
    """Whether no single lie can be left out."""
    check_question(run, question)
    return all([question(without_lie(run, key)) is not True for key in run.lies])


def told_lies(run):
    """The run with all that its lot tells as lies."""
    check_run(run)
    if run.hall.kind == "look":
        raise Refused(("look",))
    lot = run.lot
    lies = {key: letter for key, letter in run.letters.items() if key[1] in lot}
    if len(lies) > MOST_LIES:
        raise TooMany(MOST_LIES)
    return with_lies(run, lies)
