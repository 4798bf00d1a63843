"""The three phases of a floor: what each takes, and where each leads."""

from bellbook.errors import BadPhase


class Phase:
    def meets(self):
        return False

    def takes(self, word):
        return False

    def rests_asleep(self):
        return False

    def leads(self, word):
        return False


class Open(Phase):
    def meets(self):
        return True

    def takes(self, word):
        return word in ("limit", "now", "whole", "quiet")

    def rests_asleep(self):
        return True

    def leads(self, word):
        return word in ("call", "halt")


class Call(Phase):
    def takes(self, word):
        return word == "limit"

    def rests_asleep(self):
        return True

    def leads(self, word):
        return word in ("open", "halt")


class Halt(Phase):
    def leads(self, word):
        return word == "call"


def phase_of(word):
    if word == "open":
        return Open()
    if word == "call":
        return Call()
    if word == "halt":
        return Halt()
    raise BadPhase("no phase")
