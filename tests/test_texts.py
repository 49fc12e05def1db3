"""Stage 23: texts."""

import random

from evencoins.errors import InvalidCircuit, InvalidOperation, InvalidRun, ParseError, Refused, TooMany
from evencoins.judge.sound import fault
from evencoins.judge.schemes import Scheme
from evencoins.plan.circuits import Circuit
from evencoins.talk.halls import Hall
from evencoins.talk.letters import is_plain
from evencoins.talk.runs import Run
from evencoins.text.texts import (
    circuit_text, is_run_text, is_tight, plain_text, read_circuit, read_plain, read_run, run_text, told_lies, tight,
)
from evencoins.watch.watches import Watch
from tests.helper import LARGE, LONG, ODD, PRODUCT, SMALL, Case, nested
from tests.talks import (
    BOTH, CHAIN, LIE6, LOOK5, RULES, SUM, WIDE, random_lies, random_lot, random_parts,
)
from tests.test_halls import BARE, DEEP, PLAIN
from tests.test_houses import MIXED
from tests.test_views import WRONG_RUNS

BIG = 10 ** 60 - 1
TEXTS = (InvalidOperation, (None, True, 1, (), [], {}, ("input 1\n",), ["a"], PRODUCT, SMALL, "0" * 200001, "x" * 300000))
MANY = Circuit(
    tuple(("input", house) for house in range(1, 9)) + (("constant", 996),) + tuple(("product", 0, k) for k in range(12))
    + tuple(("sum", 9, k) for k in range(38)) + (("times", 58, 995),), ((59, (1, 9)),) * 6)


def random_plain(told, deep):
    """A plain value."""
    if deep == 0 or told.randrange(3) == 0:
        return told.choice((None, 0, -1, 7, BIG, -BIG, told.randrange(-999, 999)))
    return tuple(random_plain(told, deep - 1) for _ in range(told.randrange(4)))


def begins_plain(text, values):
    """Whether the text is the beginning of that of one of these values."""
    return any(text == each[:len(text)] for each in values)


class ExamplesTest(Case):

    def test_examples(self):
        circuit = Circuit((("input", 1), ("product", 0, 0)), ((1, (1, 2)),))
        self.assertEqual([plain_text((1, None, (-2, ()))), read_plain("(7)"), circuit_text(circuit)],
                         ["(1,n,(-2,()))", (7,), "input 1\nproduct 0 0\ntell 1 1 2\n"])
        with self.assertRaises(ParseError) as caught:
            read_circuit("input 1\nsum 0 1\n")
        self.assertEqual(caught.exception.spot, 1)

    def test_run(self):
        circuit = Circuit((("input", 1), ("input", 2), ("sum", 0, 1)), ((2, (3,)),))
        run = Run(Hall(5, 3, 1, "look"), circuit, (1, 2), {1: (4,), 2: (0,), 3: ()}, lot=(3,))
        self.assertEqual(run_text(run), "hall 5 3 1 look\ninput 1\ninput 2\nsum 0 1\ntell 2 3\ninputs 1 2\n"
                                        "coins 1 4\ncoins 2 0\ncoins 3\nlot 3\n")


class Texts(Case):

    def wrong_at(self, spot, function, text):
        """The text is refused at this spot."""
        with self.assertRaises(ParseError, msg=text[:200]) as caught:
            function(text)
        self.assertEqual((type(caught.exception.spot), caught.exception.spot), (int, spot), text[:300])


class PlainTest(Texts):

    def test_read_back(self):
        told = random.Random(1)
        texts = {}
        for _ in range(600):
            value = random_plain(told, 6)
            text = plain_text(value)
            self.assertEqual(texts.setdefault(text, value), value)
            self.same(value, read_plain, text)
        for value in (0, 5, -5, None, (), ((),), BIG, -BIG, (0,) * 1000, ((0,) * 1000,) * 50, nested(tuple, 6), (None, 0, ())):
            self.same(value, read_plain, plain_text(value))
        self.assertEqual([plain_text(value) for value in (0, -3, None, (), (1,), ((), None))],
                         ["0", "-3", "n", "()", "(1)", "((),n)"])

    def test_each_wrong_character(self):
        for text, spot in (
                ("", 0), ("(", 1), (")", 0), ("(,)", 1), ("(1,", 3), ("(1,)", 3), ("(1", 2), ("-", 1), ("-0", 1), ("--1", 1),
                ("00", 1), ("01", 1), ("+1", 0), (" 1", 0), ("1 ", 1), ("1,2", 1), ("n1", 1), ("nn", 1), ("N", 0), ("()()", 2),
                ("(1)2", 3), ("(1 ,2)", 2), ("(1, 2)", 3), ("None", 0), ("(n,n))", 5), ("(())()", 4), ("1" * 60 + "2", 60),
                ("-" + "1" * 61, 61), ("(" + "1" * 61 + ")", 61), ("(" * 7 + ")" * 7, 6), ("((((((1", 7), ("(((((((", 6),
                ("(1,2,(3,(4,(5,(6,(7,()))))))", 20), ("(-)", 2), ("(-0)", 2), ("(-n)", 2), ("a", 0), ("\n", 0), ("1\n", 1),
                ("(" + "0," * 1000 + "0)", 2000), ("(" + "n," * 999 + "n,", 2000), ("((" + "0," * 1000 + "0),1)", 2001),
                ("(" + "0," * 999 + "0", 2000), ("\u00b2", 0), ("1\u0661", 1), ("((((((()))))))", 6)):
            self.wrong_at(spot, read_plain, text)
        self.assertEqual([read_plain(text) for text in ("((((((1))))))", "1" * 60, "-" + "9" * 60)],
                         [((((((1,),),),),),), int("1" * 60), -int("9" * 60)])

    def test_all_short_texts(self):
        """All texts of some characters, against the beginnings of all short texts of values."""
        signs = "(),-0n1"
        values = [None, 0, 1, -1, 10, 11, -10, 100, ()]
        for _ in range(2):
            values = values[:40] + [(value,) for value in values[:20]] + [
                (one, other) for one in values[:9] for other in values[:9]]
        known = set(plain_text(value) for value in values)
        starts = set(text[:k] for text in known for k in range(len(text) + 1))
        todo = [""]
        for _ in range(4):
            todo = [text + sign for text in todo for sign in signs]
            for text in todo:
                try:
                    value = read_plain(text)
                    self.assertEqual(plain_text(value), text)
                except ParseError as error:
                    self.assertNotIn(text, known)
                    spot = error.spot
                    # Up to the spot it is a beginning of something, with it of nothing that is known.
                    if spot < len(text):
                        self.assertNotIn(text[:spot + 1], starts)
                    else:
                        self.assertEqual(spot, len(text))

    def test_beginnings(self):
        told = random.Random(2)
        for _ in range(120):
            text = plain_text(random_plain(told, 5))
            for end in range(len(text)):
                head = text[:end]
                # Digits alone are a number as well.
                if head and head.lstrip("-").isdigit():
                    self.assertEqual(plain_text(read_plain(head)), head)
                else:
                    self.wrong_at(end, read_plain, head)

    def test_refused(self):
        values = (True, False, "a", "", [], {}, LONG, -LONG, (True,), ("a",), (0,) * 1001, nested(tuple, 7), PRODUCT, (PRODUCT,),
                  ((1, [2]),), 1.5)
        self.refuses(plain_text, (7,), ((InvalidOperation, values),))
        self.refuses(read_plain, ("7",), (TEXTS,))
        self.wrong_at(0, read_plain, "x" * 200000)
        for odd in ODD:
            if is_plain(odd):
                self.same(odd, read_plain, plain_text(odd))


def circuit_lines(circuit):
    return circuit_text(circuit).split("\n")[:-1]


class CircuitTest(Texts):

    CIRCUITS = (SUM, PRODUCT, CHAIN, BOTH, MIXED, DEEP, BARE, PLAIN, MANY)

    def test_read_back(self):
        texts = set()
        for circuit in self.CIRCUITS:
            text = circuit_text(circuit)
            rows = [" ".join(map(str, gate)) for gate in circuit.gates]
            rows += [" ".join(map(str, ("tell", gate) + houses)) for gate, houses in circuit.outputs]
            self.assertEqual(text, "".join(row + "\n" for row in rows))
            texts.add(text)
            back = read_circuit(text)
            self.assertIs(type(back), Circuit)
            self.assertEqual([back, back.gates, back.outputs], [circuit, circuit.gates, circuit.outputs])
        self.assertEqual(len(texts), len(self.CIRCUITS))

    def spoilt(self, line):
        """What is no line of a text, but looks like this one."""
        words = line.split(" ")
        found = [line + " ", " " + line, line.replace(" ", "  ", 1), line.upper(), "", line + " 0", line[:-1] + "x", "x" + line,
                 " ".join(words[:-1]), " ".join(words[:-1] + ["0" + words[-1]]), " ".join(words[:-1] + ["-" + words[-1]]),
                 " ".join(words[:-1] + ["+" + words[-1]]), " ".join(words[:-1] + ["1" * 61]), line.replace(" ", "\t", 1),
                 " ".join(words[:-1] + ["9" * 5000]), " ".join(words[:-1] + ["\u00b2"]), line + "\r", "#", words[0]]
        # A line that lacks its last word can still be right.
        right = words[0] == "lot" or words[-1] == "lines" or words[0] == "tell" and len(words) > 3
        return [each for each in found if not right or each not in (" ".join(words[:-1]), words[0])]

    def test_spoilt_lines(self):
        for circuit in self.CIRCUITS[:7] + (MANY,):
            lines = circuit_lines(circuit)
            for index in range(len(lines)):
                for line in self.spoilt(lines[index]):
                    text = "\n".join(lines[:index] + [line] + lines[index + 1:]) + "\n"
                    self.wrong_at(index, read_circuit, text)

    def test_cut(self):
        for circuit in (SUM, CHAIN, MIXED):
            text = circuit_text(circuit)
            for end in range(len(text)):
                head = text[:end]
                done = head.count("\n")
                gates = len(circuit.gates)
                if head.endswith("\n") and done > gates:
                    self.assertEqual(read_circuit(head).outputs, circuit.outputs[:done - gates])
                else:
                    self.wrong_at(done, read_circuit, head)

    def test_bounds(self):
        for text, spot in (
                ("", 0), ("\n", 0), ("input 1", 0), ("input 1\n", 1), ("tell 0 1\n", 0), ("input 1\ntell 0 1\n\n", 2),
                ("input 1\ntell 0 1\nx", 2), ("input 1\ntell 0 1\ninput 1\n", 2), ("input 0\ntell 0 1\n", 0),
                ("input 10\ntell 0 1\n", 0), ("constant 997\ntell 0 1\n", 0), ("constant -1\n", 0), ("input 1\ntimes 0 997\n", 1),
                ("input 1\ntimes 1 3\n", 1), ("input 1\ntell 1 1\n", 1), ("input 1\ntell 0 2 1\n", 1), ("input 1\ntell 0 1 1\n", 1),
                ("input 1\ntell 0 10\n", 1), ("input 1\ntell 0\n", 1), ("input 1\ntell\n", 1), ("input 1\nproduct 0\n", 1),
                ("input 1 2\n", 0), ("sum 0 0\n", 0), ("input 1\n" * 9, 8), ("input 1\n" + "product 0 0\n" * 13, 13),
                ("constant 1\n" * 61, 60), ("constant 1\n" * 60 + "tell 59 1\n" * 7, 66), ("hall 5 3 1 look\ninput 1\n", 0)):
            self.wrong_at(spot, read_circuit, text)
        self.assertEqual(len(read_circuit("constant 1\n" * 60 + "tell 59 1\n" * 6).outputs), 6)

    def test_refused(self):
        self.refuses(circuit_text, (PRODUCT,), ((InvalidCircuit, tuple(
            odd for odd in ODD if not isinstance(odd, Circuit)) + (SMALL, (PRODUCT,), PRODUCT.gates)),))
        self.refuses(read_circuit, ("input 1\ntell 0 1\n",), (TEXTS,))


class RunTest(Texts):

    def runs(self):
        """Runs of all kinds."""
        told = random.Random(3)
        for hall, circuit, lines, many in (
                (SMALL, SUM, False, 2), (SMALL, CHAIN, True, 2), (LOOK5, BOTH, False, 2), (LARGE, PRODUCT, False, 3),
                (LARGE, PLAIN, True, 3), (LIE6, BOTH, False, 2), (WIDE, PRODUCT, False, 1), (LARGE, BARE, False, 1),
                (LARGE, Circuit((("constant", 3),), ((0, (2,)),)), False, 1)):
            for index in range(many):
                for without in (None, told.choice(RULES)):
                    lot = random_lot(told, hall)
                    inputs, coins = random_parts(told, hall, circuit)
                    lies = random_lies(told, hall, circuit, lot, lines, (1, 5)[index % 2])
                    for key in sorted(lies)[:4]:
                        lies[key] = random_plain(told, 6)
                    yield Run(hall, circuit, inputs, coins, lot=lot, lies=lies, lines=lines, without=without)

    def lines_by(self, run):
        """The lines of a run."""
        hall = run.hall
        words = ["hall", hall.field, hall.houses, hall.most, hall.kind] + ["lines"] * run.lines
        rows = [words + ([] if run.without is None else ["without", run.without])]
        rows += [gate for gate in run.circuit.gates] + [("tell", gate) + houses for gate, houses in run.circuit.outputs]
        rows += [("inputs",) + run.inputs] + [("coins", house) + run.coins[house] for house in hall.places]
        rows += [("lot",) + run.lot] + [("lie",) + key + (plain_text(run.lies[key]),) for key in sorted(run.lies)]
        return [" ".join(map(str, row)) for row in rows]

    def test_read_back(self):
        texts = {}
        for run in self.runs():
            text = run_text(run)
            self.assertEqual(text, "".join(line + "\n" for line in self.lines_by(run)))
            back = read_run(text)
            self.assertIs(type(back), Run)
            self.is_true(back == run)
            self.assertEqual([back.view, back.letters, back.lines], [run.view, run.letters, run.lines])
            self.same(True, is_run_text, text)
            self.assertEqual(texts.setdefault(text, run), run)

    def test_deep_lies(self):
        coins = {house: (1, 2) * (2 if house < 3 else 1) for house in LARGE.places}
        for value in (nested(tuple, 6), (0,) * 1000, BIG, -BIG, None, (((((None, -1),),),), ())):
            run = Run(LARGE, PRODUCT, (3, 5), coins, lot=(2,), lies={(1, 2, 1): value, (3, 2, 0): ()})
            self.assertEqual(read_run(run_text(run)).lies, {(1, 2, 1): value, (3, 2, 0): ()})

    def test_long_texts(self):
        coins = {house: (1, 2) * (2 if house < 3 else 1) for house in LARGE.places}
        run = Run(LARGE, PRODUCT, (3, 5), coins, lot=(2,), lies={(1, 2, 1): ((0,) * 1000,) * 120})
        text = run_text(run)
        self.assertGreater(len(text), 200000)
        self.raises(InvalidOperation, None, read_run, text)
        self.is_true(is_run_text(text))

    def test_spoilt_lines(self):
        seen = set()
        for run in list(self.runs())[::3]:
            lines = self.lines_by(run)
            for index, line in enumerate(lines):
                kind = line.split(" ")[0]
                # Some lines of each kind are enough.
                if (kind, index % 3, run.hall.kind) in seen:
                    continue
                seen.add((kind, index % 3, run.hall.kind))
                for other in CircuitTest().spoilt(line):
                    text = "\n".join(lines[:index] + [other] + lines[index + 1:]) + "\n"
                    # A lie can tell the negative of a number.
                    if other != line and (kind != "lie" or other != " ".join(line.split(" ")[:-1] + ["-" + line.split(" ")[-1]])):
                        self.is_false(is_run_text(text), (line, other))
                        self.wrong_at(index, read_run, text)

    def test_cut(self):
        for run in list(self.runs())[:6:2] + list(self.runs())[8:14:3]:
            text = run_text(run)
            fixed = len(self.lines_by(run)) - len(run.lies)
            for end in range(len(text)):
                head = text[:end]
                done = head.count("\n")
                if head.endswith("\n") and done >= fixed:
                    self.assertEqual(len(read_run(head).lies), done - fixed)
                else:
                    self.wrong_at(done, read_run, head)
                    self.is_false(is_run_text(head))

    HEAD = "hall 7 5 1 lie\ninput 1\ninput 2\nproduct 0 1\ntell 2 1 3\ninputs 3 5\n"
    COINS = "coins 1 1 2 1 2\ncoins 2 1 2 1 2\ncoins 3 1 2\ncoins 4 1 2\ncoins 5 1 2\n"

    def test_first_lines(self):
        for line in ("hall 8 5 1 lie", "hall 7 7 1 lie", "hall 7 2 1 look", "hall 7 5 2 lie", "hall 7 5 0 lie", "hall 7 5 1 Lie",
                     "hall 7 5 1", "hall 7 5 lie", "hall 7 5 1 lie line", "hall 7 5 1 lie lines lines", "hall 7 5 1 lie without",
                     "hall 7 5 1 lie without rows", "hall 7 5 1 lie without king lines", "hall 7 5 1 lie lines without king 1",
                     "hall 7 5 1 lie coins", "Hall 7 5 1 lie", "hall 7 5 3 look", "hall 997 10 1 look", "hall 1009 5 1 lie",
                     "hall 7 4 1 lie", "hall 7 3 1 lie", "lie 7 5 1 lie", "input 1", "", "hall 7 x 1 lie", "hall x 5 1 lie",
                     "hall 07 5 1 lie", "hall 7 5 1 lie with king", "hall 7 5 1 lie lines with king", "hall 7 -5 1 lie"):
            self.wrong_at(0, read_run, line + self.HEAD[14:] + self.COINS + "lot 1\n")
        for line in ("hall 7 5 1 lie", "hall 7 5 1 lie lines", "hall 7 5 1 lie without king", "hall 7 5 1 lie lines without bound"):
            self.assertEqual(run_text(read_run(line + self.HEAD[14:] + self.COINS + "lot 1\n")).split("\n")[0], line)
        self.assertEqual(read_run("hall 7 6 1 lie" + self.HEAD[14:] + self.COINS + "coins 6 1 2\nlot 6\n").lot, (6,))

    def test_parts_for_the_hall(self):
        for text, spot in (
                (self.HEAD.replace("input 2", "input 6") + self.COINS, 2), (self.HEAD.replace("1 3\n", "1 6\n") + self.COINS, 4),
                (self.HEAD.replace("input 2", "constant 7"), 2), (self.HEAD.replace("product 0 1", "times 0 7"), 3),
                (self.HEAD.replace("3 5", "3 7"), 5), (self.HEAD.replace("3 5", "3"), 5), (self.HEAD.replace("3 5", "3 5 1"), 5),
                (self.HEAD.replace("inputs", "input"), 5), (self.HEAD + self.COINS.replace("coins 3 1 2", "coins 3 1"), 8),
                (self.HEAD + self.COINS.replace("coins 3 1 2", "coins 4 1 2"), 8), (self.HEAD + self.COINS[:16] + self.COINS, 7),
                (self.HEAD + self.COINS.replace("coins 3 1 2", "coins 3 1 7"), 8), (self.HEAD + self.COINS.replace("coins 3 1 2", "coins 3 7 1"), 8),
                (self.HEAD + self.COINS, 11),
                (self.HEAD + self.COINS.replace("coins 5 1 2", "coin 5 1 2"), 10), (self.HEAD + self.COINS + "lot 6\n", 11),
                (self.HEAD + self.COINS + "lot 1 2\n", 11), (self.HEAD + self.COINS + "lot 0\n", 11),
                (self.HEAD + self.COINS + "lot 1", 11), (self.HEAD + self.COINS + "lot \n", 11), (self.HEAD, 6),
                (self.HEAD + self.COINS + "lot 2\nlot 2\n", 12)):
            self.wrong_at(spot, read_run, text)
        self.assertEqual(read_run(self.HEAD.replace("lie", "lie without bound") + self.COINS + "lot 1 2\n").lot, (1, 2))
        self.wrong_at(11, read_run, self.HEAD.replace("lie", "lie without bound") + self.COINS + "lot 1 2 3\n")

    def test_lies(self):
        head = self.HEAD + self.COINS + "lot 2\n"
        for lies, spot in (
                ("lie 1 2 1 7", 12), ("lie 1 2 2 7\n", 12), ("lie 1 1 2 7\n", 12), ("lie 0 2 1 7\n", 12), ("lie 13 2 1 7\n", 12),
                ("lie 1 2 0 7\n", 12), ("lie 3 2 1 7\n", 12), ("lie 1 2 6 7\n", 12), ("lie 1 2 1 (7,)\n", 12),
                ("lie 1 2 1 7\nlie 1 2 1 7\n", 13), ("lie 1 2 3 7\nlie 1 2 1 7\n", 13), ("lie 2 2 1 7\nlie 1 2 1 7\n", 13),
                ("lie 1 2 1 7\nlie 1 2 3\n", 13), ("lie 1 2 1 (1, 2)\n", 12), ("lie 1 2 1 \n", 12), ("lie 1 2 1\n", 12),
                ("lies 1 2 1 7\n", 12), ("lie 01 2 1 7\n", 12), ("lie 1 2 1 7 \n", 12), ("lie 1 2 1 None\n", 12),
                ("lie 1 2 1 ((((((())))))))\n", 12), ("lie 1 2 1 7\n\n", 13), ("lie 1 2 1 7\ncoins 1\n", 13)):
            self.wrong_at(spot, read_run, head + lies)
            self.is_false(is_run_text(head + lies))
        run = read_run(head + "lie 1 2 1 (n,-3)\nlie 1 2 3 ()\nlie 3 2 0 n\nlie 12 2 1 0\n")
        self.assertEqual(run.lies, {(1, 2, 1): (None, -3), (1, 2, 3): (), (3, 2, 0): None, (12, 2, 1): 0})
        looks = run_text(Run(SMALL, SUM, (1, 2), {1: (1,), 2: (1,), 3: ()}, lot=(2,)))
        self.wrong_at(10, read_run, looks + "lie 1 2 1 (0)\n")

    def test_three_hundred_lies(self):
        told = random.Random(4)
        inputs, coins = random_parts(told, WIDE, PRODUCT)
        quiet = Run(WIDE, PRODUCT, inputs, coins, lot=(2, 7), lines=True)
        keys = [key for key in sorted(quiet.letters) if key[1] in (2, 7)]
        rows = ["lie %d %d %d ()\n" % key for key in keys]
        text = run_text(quiet)
        self.assertEqual(len(read_run(text + "".join(rows[:300])).lies), 300)
        self.wrong_at(text.count("\n") + 300, read_run, text + "".join(rows[:301]))

    def test_values(self):
        self.judges(is_run_text, ())
        self.judges(is_run_text, (), ["hall 5 3 1 look", self.HEAD, "\n", [self.HEAD + self.COINS + "lot 2\n"]])
        self.is_true(is_run_text(self.HEAD + self.COINS + "lot 2\n"))
        self.is_true(is_run_text(self.HEAD + self.COINS + "lot\n"))

    def test_refused(self):
        self.refuses(run_text, (read_run(self.HEAD + self.COINS + "lot 2\n"),), (WRONG_RUNS,))
        self.refuses(read_run, (self.HEAD + self.COINS + "lot 2\n",), (TEXTS,))


class TightTest(Case):

    def tight_by(self, run, question):
        """Sweeps from the last lie to the first one."""
        lies = run.lies
        while True:
            before = len(lies)
            for key in sorted(lies, reverse=True):
                fewer = {other: lies[other] for other in lies if other != key}
                if question(self.with_lies(run, fewer)) is True:
                    lies = fewer
            if len(lies) == before:
                return lies

    def with_lies(self, run, lies):
        return Run(run.hall, run.circuit, run.inputs, run.coins, lot=run.lot, lies=lies, lines=run.lines,
                   without=run.without)

    def questions(self, run):
        """Questions that tell True of a run."""
        first = fault(run)
        yield lambda other: True
        yield lambda other: fault(other) == first
        yield lambda other: other.outputs == run.outputs
        yield lambda other: len(other.lies) % 3 == len(run.lies) % 3
        yield lambda other: other.committed == run.committed and other.shares == run.shares
        yield lambda other: True if len(other.lies) >= 3 else 1

    def test_sweeps(self):
        told = random.Random(5)
        for hall, circuit, lines, without in ((LARGE, PLAIN, False, None), (LARGE, PLAIN, False, "votes"), (LARGE, SUM, False, None),
                                              (LARGE, PRODUCT, False, "nearest"), (SMALL, SUM, False, "degree")):
            inputs, coins = random_parts(told, hall, circuit)
            lot = (told.choice(hall.places[:2]),)
            lies = random_lies(told, hall, circuit, lot, lines, 3)
            if hall is LARGE:
                lies = dict(sorted(lies.items(), key=lambda item: item[0])[:9] or {(1, lot[0], 5): ()})
            run = Run(hall, circuit, inputs, coins, lot=lot, lies=lies, lines=lines, without=without)
            for question in list(self.questions(run))[:5 if len(lies) < 3 else 6]:
                right = self.tight_by(run, question)
                found = tight(run, question)
                self.is_true(found == self.with_lies(run, right))
                self.is_true(is_tight(found, question))
                one_less = [self.with_lies(run, {k: v for k, v in run.lies.items() if k != key}) for key in run.lies]
                self.assertIs(is_tight(run, question), all(question(other) is not True for other in one_less))
                self.assertEqual(run.lies, {key: lies[key] for key in sorted(lies)})

    def test_several_sweeps(self):
        # The first lie can be left out only behind the second one, and the second one only behind the first one's sweep.
        lies = {(1, 2, 1): (), (1, 2, 3): (), (2, 2, 1): (), (2, 2, 3): ()}
        coins = {1: (), 2: (1, 2, 3, 4), 3: (), 4: (), 5: ()}
        run = Run(LARGE, PLAIN, (1, 2), coins, lot=(2,), lies=lies)
        fine = [set(lies), {(1, 2, 1), (2, 2, 1), (2, 2, 3)}, {(2, 2, 1), (2, 2, 3)}, {(2, 2, 1)}]
        asked = []

        def question(other):
            asked.append(set(other.lies))
            return set(other.lies) in fine
        self.assertEqual(tight(run, question).lies, {(2, 2, 1): ()})
        # Sweep by sweep, each time from the last lie to the first one.
        keys = sorted(lies)
        self.assertEqual(asked[1:5], [set(lies) - {keys[3]}, set(lies) - {keys[2]}, set(lies) - {keys[1]},
                                      {keys[2], keys[3]}])
        self.assertEqual(asked[5:], [{keys[2]}, set(), set()])

    def test_not_true(self):
        # Tight lies need not be the fewest: together the two can be left out.
        lies = {(1, 2, 1): (), (1, 2, 3): ()}
        run = Run(LARGE, PLAIN, (1, 2), {1: (), 2: (1, 2, 3, 4), 3: (), 4: (), 5: ()}, lot=(2,), lies=lies)
        self.is_true(is_tight(run, lambda other: len(other.lies) != 1))
        self.assertEqual(tight(run, lambda other: len(other.lies) != 1).lies, lies)

    def test_refused(self):
        run = Run(LARGE, PLAIN, (1, 2), {1: (), 2: (1, 2, 3, 4), 3: (), 4: (), 5: ()}, lot=(2,), lies={(1, 2, 1): ()})
        wrong = tuple(odd for odd in ODD if not callable(odd)) + (
            SMALL, PRODUCT, run, run.houses[1], Scheme(5, 1, (1,), (), (), ()), Watch(SMALL, (1,), ((1,),)),
            lambda other: False, lambda other: 1, lambda other: None, lambda other: len(other.lies) == 0)
        for function in (tight, is_tight):
            self.refuses(function, (run, lambda other: True), (WRONG_RUNS, (InvalidOperation, wrong)))


class ToldTest(Case):

    def test_told_lies(self):
        told = random.Random(6)
        for hall, circuit, lines, many in ((LARGE, PRODUCT, False, 4), (LARGE, PLAIN, True, 4), (LIE6, BOTH, False, 3),
                                           (LARGE, SUM, True, 2), (WIDE, PLAIN, False, 2)):
            for index in range(many):
                lot = random_lot(told, hall)
                inputs, coins = random_parts(told, hall, circuit)
                lies = random_lies(told, hall, circuit, lot, lines, (0, 3, 6)[index % 3])
                without = told.choice((None, "complaints", "votes", "errors", "king"))
                run = Run(hall, circuit, inputs, coins, lot=lot, lies=lies, lines=lines, without=without)
                other = told_lies(run)
                self.assertEqual([other.hall, other.circuit, other.inputs, other.coins, other.lot, other.lines, other.without],
                                 [hall, circuit, inputs, run.coins, lot, lines, without])
                self.assertEqual(other.lies, {key: letter for key, letter in run.letters.items() if key[1] in lot})
                self.assertEqual([other.view, other.shares, other.outputs, other.committed],
                                 [run.view, run.shares, run.outputs, run.committed])
                self.is_true(told_lies(other) == other)

    def test_bounds(self):
        told = random.Random(7)
        for circuit, lines, many in ((PRODUCT, True, None), (PLAIN, False, 2 * 3 * 8 + 2 * 3), (PRODUCT, False, 2 * 6 * 8 + 2 * 6)):
            inputs, coins = random_parts(told, WIDE, circuit)
            run = Run(WIDE, circuit, inputs, coins, lot=(2, 7), lines=lines)
            if many is None:
                self.raises(TooMany, 300, told_lies, run)
            else:
                self.assertEqual(len(told_lies(run).lies), many)
        for hall in (SMALL, LOOK5):
            inputs, coins = random_parts(told, hall, SUM)
            self.raises(Refused, ("look",), told_lies, Run(hall, SUM, inputs, coins, lot=(2,)))
        self.refuses(told_lies, (run,), (WRONG_RUNS,))
        self.assertIs(WRONG_RUNS[0], InvalidRun)
        # Just three hundred, of two led houses among five, and one level more.
        for levels in (9, 10):
            chain = Circuit((("input", 1),) + tuple(("product", k, k) for k in range(levels)), ((levels, (1, 2)),))
            inputs, coins = random_parts(told, LARGE, chain)
            run = Run(LARGE, chain, inputs, coins, lot=(1, 2), without="bound")
            if levels == 9:
                self.assertEqual(len(told_lies(run).lies), 300)
            else:
                self.raises(TooMany, 300, told_lies, run)
        # Without a wall one led house of five tells 36 rounds.
        inputs, coins = random_parts(told, LARGE, PRODUCT)
        self.assertEqual(len(told_lies(Run(LARGE, PRODUCT, inputs, coins, lot=(2,), lines=True)).lies), 36 * 4)
