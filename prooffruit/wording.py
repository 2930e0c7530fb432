"""Words that can stand for names and labels."""

from prooffruit.terms import LETTERS


def word_at(number):
    """The word of a number from 0, each another one: a to z, then aa, ab and so on."""
    word = ""
    while number >= 0:
        word = LETTERS[number % len(LETTERS)] + word
        number = number // len(LETTERS) - 1
    return word
