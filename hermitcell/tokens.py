"""Tokens, and the verifiers that take them (points [28] to [30])."""

from hermitcell.errors import NotValid
from hermitcell.words import Atom, is_text


def token_of(monitor, measure, challenge):
    """The token. Raises NotValid if there is none."""
    return Atom("token", (monitor, measure, challenge))


def token_parts(word):
    """The tuple (monitor, measure, challenge) of a token, None for everything else."""
    if type(word) is Atom and word.kind == "token":
        return word.term
    return None


class Verifier:
    """Who gives challenges, and takes for each of them one token of a trusted monitor with a measure asked for."""

    def __init__(self, name, monitors, measures):
        if not is_text(name):
            raise NotValid()
        self._name = name
        self._monitors = monitors
        self._measures = measures
        self._given = 0
        self._waiting = []

    def challenge(self):
        """Gives the next challenge."""
        challenge = Atom("challenge", (self._name, self._given))
        self._given += 1
        self._waiting.append(challenge)
        return challenge

    def is_open(self, word):
        """True if the word is an open challenge of this verifier."""
        return type(word) is Atom and word in self._waiting

    def open_ones(self):
        """The list of the open challenges, in the order in which they were given."""
        return list(self._waiting)

    def take(self, word):
        """True if it takes the word, which ends the challenge; otherwise False."""
        parts = token_parts(word)
        if parts is None:
            return False
        monitor, measure, challenge = parts
        if monitor not in self._monitors or measure not in self._measures or not self.is_open(challenge):
            return False
        self._waiting = [each for each in self._waiting if each != challenge]
        return True
