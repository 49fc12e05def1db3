"""What texts are made of: words, numbers, and plain values, character by character."""

from evencoins.errors import ParseError
from evencoins.talk.letters import DEEPEST, MOST_MEMBERS

DIGITS = "0123456789"
MOST_DIGITS = 60


def digits_end(text, first):
    """Where the digits of a number end that can begin here: one 0, or at most 60 digits without a 0 ahead."""
    if text[first:first + 1] == "0":
        return first + 1
    end = first
    while end < len(text) and end < first + MOST_DIGITS and text[end] in DIGITS:
        end += 1
    return end


def number_in(word):
    """The number that a word tells, or None."""
    end = digits_end(word, 0)
    return int(word) if 0 < end == len(word) else None


def numbers_in(words):
    """The tuple of the numbers that words tell, or None."""
    found = tuple([number_in(word) for word in words])
    return None if None in found else found


def single_at(text, first):
    """The pair of the value, None or an integer, that begins here and of its end."""
    if text[first:first + 1] == "n":
        return None, first + 1
    start = first + 1 if text[first:first + 1] == "-" else first
    end = digits_end(text, start)
    # Behind the sign stands no 0.
    if end == start or start > first and text[start] == "0":
        raise ParseError(start)
    return int(text[first:end]), end


def closed_at(text, at, members):
    """Whether a tuple with these members ends here, and not with a comma: what else stands here is refused."""
    sign = text[at:at + 1]
    if sign == ")":
        return True
    if sign != "," or len(members) == MOST_MEMBERS:
        raise ParseError(at)
    return False


def plain_in(text):
    """The plain value of which this is the text."""
    held = []
    at = 0
    while True:
        # Here a value begins.
        if text[at:at + 1] == "(":
            if len(held) == DEEPEST:
                raise ParseError(at)
            held.append([])
            at += 1
            if text[at:at + 1] != ")":
                continue
            value = tuple(held.pop())
            at += 1
        else:
            value, at = single_at(text, at)
        # Here it has ended, and perhaps tuples end with it.
        while held:
            held[-1].append(value)
            if not closed_at(text, at, held[-1]):
                break
            value = tuple(held.pop())
            at += 1
        if not held:
            break
        at += 1
    if at < len(text):
        raise ParseError(at)
    return value
