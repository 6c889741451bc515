"""Webs, rules and states as texts, and such texts read."""

from likespite.errors import BadLine
from likespite.rules import check_rules, check_state, is_state, is_table
from likespite.webs import check_web, wrong_part

FIGURES = "0123456789"


def sign_word(sign):
    """The word for a sign."""
    return "liking" if sign == 1 else "spite"


def numbers_text(numbers):
    """Numbers with a blank between."""
    return " ".join([str(number) for number in numbers])


def numbers_told(words):
    """The tuple of the numbers that words of one figure each tell, None if some word is no figure."""
    if not all(len(word) == 1 and word in FIGURES for word in words):
        return None
    return tuple([int(word) for word in words])


def lines_of(text):
    """The lines of a text, without the newlines by which they are ended."""
    if not isinstance(text, str) or text == "":
        raise BadLine(0)
    *lines, rest = text.split("\n")
    if rest != "":
        raise BadLine(len(lines))
    return lines


def tops_told(line):
    """The tops that the first line of a web's text tells, None if it has no such form."""
    word, *rest = line.split(" ")
    return numbers_told(rest) if word == "folk" else None


def look_told(line):
    """The look that a line tells, None if it has no such form."""
    words = line.split(" ")
    if len(words) != 5:
        return None
    first, looker, second, seen, kind = words
    numbers = numbers_told([seen, looker])
    if first != "look" or second != "at" or kind not in ("liking", "spite") or numbers is None:
        return None
    return numbers + (1 if kind == "liking" else -1,)


def table_told(folk, line):
    """The table of one of the folk that a line tells, None if it has no such form."""
    number, *rest = line.split(" ")
    if number != str(folk) or rest[:1] != ["tells"]:
        return None
    return numbers_told(rest[1:])


def web_text(web):
    """The text of a web."""
    check_web(web)
    tops, looks = web
    lines = [f"look {other} at {one} {sign_word(sign)}\n" for one, other, sign in looks]
    return f"folk {numbers_text(tops)}\n" + "".join(lines)


def rules_text(web, rules):
    """The text of rules."""
    check_web(web)
    check_rules(web, rules)
    return "".join([f"{folk} tells {numbers_text(table)}\n" for folk, table in enumerate(rules)])


def state_text(web, state):
    """The text of a state."""
    check_web(web)
    check_state(web, state)
    return numbers_text(state)


def read_web(text):
    """The web that a text tells."""
    lines = lines_of(text)
    web = (tops_told(lines[0]), ())
    if wrong_part(web) is not None:
        raise BadLine(0)
    for number, line in enumerate(lines[1:], start=1):
        tops, looks = web
        web = (tops, looks + (look_told(line),))
        # The looks ahead can stand there, so it is this one if they can't with it.
        if wrong_part(web) is not None:
            raise BadLine(number)
    return web


def read_rules(web, text):
    """The rules of a web that a text tells."""
    check_web(web)
    tops, _ = web
    found = []
    lines = lines_of(text)
    for folk, line in enumerate(lines):
        table = table_told(folk, line)
        if folk >= len(tops) or not is_table(web, folk, table):
            raise BadLine(folk)
        found.append(table)
    if len(found) < len(tops):
        raise BadLine(len(lines))
    return tuple(found)


def read_state(web, text):
    """The state of a web that a text tells."""
    check_web(web)
    if not isinstance(text, str):
        raise BadLine(0)
    state = numbers_told(text.split(" "))
    if not is_state(web, state):
        raise BadLine(0)
    return state
