"""The words of programs, and the forms of their lines (point 11)."""

LETTERS = "abcdefghijklmnopqrstuvwxyz"
_DIGITS = "0123456789"
_MOST_CELLS = 6
_MOST_LETTERS = 12

# R, ATOM and NAME stand for all words of that kind, every other word for itself.
_FORMS = (
    "set R ATOM",
    "set R ATOM + ATOM",
    "set R ATOM - ATOM",
    "go NAME",
    "if ATOM = ATOM go NAME",
    "if ATOM < ATOM go NAME",
    "read R ATOM",
    "write ATOM ATOM",
    "write ATOM ATOM + ATOM",
    "write ATOM ATOM - ATOM",
    "swap R ATOM ATOM ATOM",
    "answer ATOM",
    "answer yes",
    "answer no",
)


def _is_letter(word):
    return len(word) == 1 and word in LETTERS


def _is_first_value(word):
    return word == "none" or (len(word) == 1 and word in _DIGITS)


def _is_name(word):
    return 1 <= len(word) <= _MOST_LETTERS and all([letter in LETTERS for letter in word])


def _fits_word(kind, word):
    if kind == "R":
        return _is_letter(word)
    if kind == "ATOM":
        return _is_letter(word) or _is_first_value(word)
    if kind == "NAME":
        return _is_name(word)
    return word == kind


def _fits(form, words):
    kinds = form.split(" ")
    return len(kinds) == len(words) and all([_fits_word(kind, word) for kind, word in zip(kinds, words)])


def value_of(word):
    """The value that a digit or none stands for."""
    return None if word == "none" else int(word)


def first_values(line):
    """The tuple of the first values of the cells that a line tells of, None if it is no such line."""
    word, *told = line.split(" ")
    if word != "cells" or not 1 <= len(told) <= _MOST_CELLS or not all([_is_first_value(part) for part in told]):
        return None
    return tuple([value_of(part) for part in told])


def method_name(line):
    """The name of the method that a line begins, None if it begins none."""
    words = line.split(" ")
    return words[1] if _fits("on NAME", words) else None


def row_of(line):
    """The tuple of the words of a line of a method, ("label", NAME) for a label; None if it is no such line."""
    if line.endswith(":") and _is_name(line[:-1]):
        return ("label", line[:-1])
    words = line.split(" ")
    return tuple(words) if any([_fits(form, words) for form in _FORMS]) else None
