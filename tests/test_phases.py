"""Points 5 and 19: what each phase takes, and where it leads."""

import unittest

from bellbook import phases
from bellbook.errors import BadPhase
from bellbook.phases import Call, Halt, Open, Phase, phase_of

KINDS = ["limit", "now", "whole", "quiet"]
WORDS = ["open", "call", "halt"]

# For each phase: whether orders meet, what it takes, whether orders are laid asleep, and where it leads.
TABLE = [
    (Open, True, KINDS, True, ["call", "halt"]),
    (Call, False, ["limit"], True, ["open", "halt"]),
    (Halt, False, [], False, ["call"]),
    (Phase, False, [], False, []),
]


class PhaseTest(unittest.TestCase):
    def test_meets(self):
        for phase, meets, takes, rests, leads in TABLE:
            with self.subTest(phase=phase.__name__):
                self.assertIs(phase().meets(), meets)

    def test_takes(self):
        for phase, meets, takes, rests, leads in TABLE:
            for word in KINDS + ["", "Limit", "stop", "open", "limit "]:
                with self.subTest(phase=phase.__name__, word=word):
                    self.assertIs(phase().takes(word), word in takes)
                    self.assertIs(phase().takes(word=word), word in takes)

    def test_rests_asleep(self):
        for phase, meets, takes, rests, leads in TABLE:
            with self.subTest(phase=phase.__name__):
                self.assertIs(phase().rests_asleep(), rests)

    def test_leads(self):
        for phase, meets, takes, rests, leads in TABLE:
            for word in WORDS + ["", "Call", "limit", "halt "]:
                with self.subTest(phase=phase.__name__, word=word):
                    self.assertIs(phase().leads(word), word in leads)
                    self.assertIs(phase().leads(word=word), word in leads)

    def test_each_stands_straight_under_phase(self):
        self.assertEqual(Phase.__bases__, (object,))
        for name in ["Open", "Call", "Halt"]:
            self.assertEqual(getattr(phases, name).__bases__, (Phase,))


class PhaseOfTest(unittest.TestCase):
    def test_each_word(self):
        for word, phase in zip(WORDS, [Open, Call, Halt]):
            self.assertIs(type(phase_of(word)), phase)
            self.assertIs(type(phase_of(word=word)), phase)

    def test_other_texts(self):
        for word in ["", "Open", "CALL", "halt ", " halt", "open\n", "op", "opened", "halted", "calls", "phase",
                     "Phase", "limit", "buy"]:
            with self.subTest(word=word), self.assertRaises(BadPhase):
                phase_of(word)


if __name__ == "__main__":
    unittest.main()
