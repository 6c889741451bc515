"""Desks: benches led by lines of text."""

from likespite.benches import Bench
from likespite.errors import BadLine
from likespite.texts import numbers_text, numbers_told

STEPS = ("tick", "look", "paint", "back")
# How many numbers stand behind each word; behind "apart" it is one for each of the folk.
NUMBERS = {"tick": 0, "look": 1, "paint": 2, "back": 0, "state": 0, "near": 0, "uneasy": 0}


def numbers_behind(word, many):
    """How many numbers stand behind a word for so many folk, None for no word of a desk's."""
    if word == "apart":
        return many
    return NUMBERS.get(word)


def order_told(line, many):
    """The word and the numbers of a line, for so many folk."""
    if not isinstance(line, str):
        raise BadLine(0)
    word, *rest = line.split(" ")
    numbers = numbers_told(rest)
    if numbers is None or len(numbers) != numbers_behind(word, many):
        raise BadLine(0)
    return word, numbers


def take_step(bench, word, numbers):
    """Let a bench do what a word and its numbers tell."""
    if word == "tick":
        bench.tick()
    elif word == "look":
        bench.look(numbers[0])
    elif word == "paint":
        bench.paint(numbers[0], numbers[1])
    else:
        bench.back()


def answer(bench, word, numbers):
    """What a bench tells where a word and its numbers ask."""
    if word == "state":
        return numbers_text(bench.state)
    if word == "uneasy":
        return numbers_text(bench.uneasy)
    if word == "apart":
        return str(bench.apart(numbers))
    near = bench.near
    return "none" if near is None else numbers_text(near)


class Desk:
    """A bench led by lines of text."""

    def __init__(self, web, rules, state):
        self._bench = Bench(web, rules, state)

    def do(self, line):
        """Do what a line tells, or answer what it asks."""
        word, numbers = order_told(line, len(self._bench.state))
        if word in STEPS:
            take_step(self._bench, word, numbers)
            return "done"
        return answer(self._bench, word, numbers)
