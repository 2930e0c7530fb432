"""Words that can stand for names and labels."""

from prooffruit.terms import LETTERS


def word_at(number):
    """The word of a number from 0, each another one: a to z, then aa, ab and so on."""
    word = ""
    while number >= 0:
        word = LETTERS[number % len(LETTERS)] + word
        number = number // len(LETTERS) - 1
    return word


class Words:
    """Words that aren't used yet; used is a dict whose keys are."""

    def __init__(self, used):
        self.used = used
        self.tried = 0

    def fresh(self):
        """A word that isn't used, each time another one."""
        while True:
            word = word_at(self.tried)
            self.tried += 1
            if word not in self.used:
                return word
