"""The interface as it is told: each name, in its own file, with its own arguments."""

import inspect
import unittest

from turingwright import errors, machines, papers, tapes

FUNCTIONS = {
    tapes: ("trimmed(row)", "first_of(row)", "of_word(word, place=0)", "told_tape(tape)", "read_tape(text)",
            "turned_tape(tape)"),
    machines: ("told_machine(machine)", "told_row(row)", "read_machine(text)", "read_row(triple)",
               "turned_machine(machine)", "renamed_states(machine, order)", "come_to(machine)", "score(machine, most)",
               "records(machine, count)"),
    papers: ("ring_paper(machine, most)", "check_ring(machine, paper)", "moved_paper(machine, most)",
             "back_depth(machine, history, first, second)", "same_behind(one, other, side, depth)",
             "check_moved(machine, paper)", "grams_paper(machine, size, most=4000)", "grow_from(machine, here, lots)",
             "check_grams(machine, paper)", "decide(machine, most, size)", "check_decided(machine, told)"),
}
METHODS = {
    tapes.Tape: ("__init__(self, left=(), here=0, right=())", "write(self, sign)", "move(self, way)",
                 "at(self, place)", "ones(self)", "span(self)", "word(self)", "shown(self)"),
    machines.Machine: ("__init__(self, states, signs, table)", "step(self, state, tape)",
                       "run(self, tape, most, state=0)", "history(self, tape, count, state=0)", "halts_at(self)",
                       "shown(self)"),
}


class Interface(unittest.TestCase):
    def test_functions(self):
        for module, told in FUNCTIONS.items():
            for one in told:
                function = getattr(module, one.partition("(")[0])
                self.assertEqual(function.__name__ + str(inspect.signature(function)), one)
                self.assertEqual(function.__module__, module.__name__)

    def test_methods(self):
        for kind, told in METHODS.items():
            for one in told:
                method = vars(kind)[one.partition("(")[0]]
                self.assertEqual(method.__name__ + str(inspect.signature(method)), one)

    def test_classes_stand_in_their_files(self):
        self.assertEqual(tapes.Tape.__module__, "turingwright.tapes")
        self.assertEqual(machines.Machine.__module__, "turingwright.machines")
        self.assertEqual(errors.MachineFault.__module__, "turingwright.errors")


if __name__ == "__main__":
    unittest.main()
