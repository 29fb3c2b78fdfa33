"""The interface as it is told: each name, in its own file, with its own arguments."""

import inspect
import unittest

from turingwright import (beavers, cells, codes, desks, errors, machines, papers, posts, recs, registers, rules, tags,
                          tapes, tells, terms, whiles)

FUNCTIONS = {
    tapes: ("trimmed(row)", "first_of(row)", "of_word(word, place=0)", "told_tape(tape)", "read_tape(text)",
            "turned_tape(tape)"),
    machines: ("told_machine(machine)", "told_row(row)", "read_machine(text)", "read_row(triple)",
               "turned_machine(machine)", "renamed_states(machine, order)", "come_to(machine)", "score(machine, most)",
               "records(machine, count)"),
    papers: ("ring_paper(machine, most)", "check_ring(machine, paper)", "moved_paper(machine, most)",
             "back_depth(machine, history, first, second)", "same_behind(one, other, side, depth)",
             "check_moved(machine, paper)", "grams_paper(machine, size, most=4000)", "grow_from(machine, here, lots)",
             "check_grams(machine, paper)", "decide(machine, most, size)", "check_decided(machine, told)"),
    beavers: ("check_size(states, signs)", "rows_for(machine, states, signs)",
              "all_machines(states, signs, most, size)", "is_full(machine)",
              "with_rows(machine, states, signs, most)", "busiest(states, signs, most, size)", "check_class(rows)",
              "champions(rows, most)", "kinds_told(rows)"),
    registers: ("count_of(counts, slot)", "trimmed_counts(counts)", "with_count(counts, slot, number)",
                "in_turn(programs)", "moved(program, by)", "clear(slot)", "pour(slot, others)",
                "copy(slot, other, room)", "while_not(slot, program)", "times_over(slot, program)",
                "told_program(program)", "read_program(text)"),
    whiles: ("check_steps(rows)", "carried(rows, counts, most)", "names_of(rows)", "depth(rows)", "has_while(rows)",
             "by_registers(rows)", "told_step(row, room)", "adding(one, other)", "multiplying(one, other, found)",
             "less(one, other)", "bound(rows, most)"),
    recs: ("check_function(term)", "check_put(term)", "worth(term, row, most=5000)", "is_plain(term)",
           "constant(number, count)", "by_steps(term, names, found, room)", "steps_of(term)", "parts_in(term)",
           "adder()", "multiplier()", "before()"),
    codes: ("pair(one, other)", "parted(number)", "row_code(row)", "row_of(number)", "step_code(row)",
            "step_of(number)", "program_code(program)", "program_of(number)", "run_code(number, counts, most)",
            "picked(number, place)", "with_number(number, place, new)", "bits_code(word)", "bits_of(number)",
            "least_code(counts, found, limit, most)"),
    tags: ("coded(signs, word)", "uncoded(signs, word)", "as_rounds(tag, signs)", "lengths(tag, word, count)"),
    rules: ("check_rules(rules)", "all_after(rules, word)", "first_after(rules, word)", "by_first(rules, word, most)",
            "reached(rules, word, most, longest)", "way_between(rules, one, other, most, longest)",
            "check_way(rules, word, steps)", "turned_rules(rules)", "kept_count(rules, signs)", "shortens(rules)",
            "of_machine(machine)", "letter(state)", "word_of(state, tape)", "same_word(one, other)",
            "bare_word(word)"),
    cells: ("check_row(row)", "is_onto(cells)", "orphan(cells, longest)", "is_one_to_one(cells)",
            "both(cells, node, alive, ahead)", "ring_kinds(cells, size)", "all_rings(size)", "adds_up(cells)",
            "bit(cells, three)", "keeps_ones(cells)"),
    terms: ("check_term(term)", "put(one, other)", "put_all(one, others)", "spine(term)", "size_of(term)",
            "letters_of(term)", "step(term)", "done(head, rest)", "all_steps(term)", "ended(term, most, largest=400)",
            "told_term(term)", "read_term(text)", "read_terms(text, place)", "without(letter, term)",
            "function(letters, term)", "exchanged(term, table)", "numeral(count)", "number_of(term, most=3000)",
            "next_number()", "sum_term()", "product_term()", "meets(term, most)"),
    posts: ("check_pairs(pairs)", "check_laid(pairs, row)", "over(state, pair)", "plain(state)",
            "shortest(pairs, most, longest)", "none_paper(pairs, most)", "check_none(pairs, paper)",
            "by_counts(pairs)", "times_in(word, sign)", "all_rows(pairs, count)", "turned_pairs(pairs)",
            "is_least(pairs, row)", "reads(pairs, row)"),
    tells: ("bits_for(signs)", "sign_bits(sign, size)", "told_by_two(tape, size)", "told_back(tape, size)",
            "of_bits(row)", "by_two(machine)", "counts_word(counts)", "word_counts(word)", "by_tape(program, width)",
            "make_row(maker, place, row, nexts, width)", "shift_in(maker, start, behind, after, ahead)",
            "shift_out(maker, start, behind, after, ahead)", "pick_up(maker, state, left, pull, home)",
            "go_home(maker, twos, after)", "run_by_tape(program, counts, width, most)",
            "number_of_side(row, signs)", "side_of_number(number, signs)", "counted_step(machine, state, counts)",
            "counted_run(machine, tape, most)"),
    desks: ("number(word)", "figure_of(text)", "told_place(state, tape)", "lines_of(text)", "done_again(text)"),
}
METHODS = {
    tapes.Tape: ("__init__(self, left=(), here=0, right=())", "write(self, sign)", "move(self, way)",
                 "at(self, place)", "ones(self)", "span(self)", "word(self)", "shown(self)"),
    machines.Machine: ("__init__(self, states, signs, table)", "step(self, state, tape)",
                       "run(self, tape, most, state=0)", "history(self, tape, count, state=0)", "halts_at(self)",
                       "shown(self)"),
    registers.Program: ("__init__(self, rows)", "step(self, place, counts)", "run(self, counts, most)",
                        "history(self, counts, count)", "width(self)", "shown(self)"),
    whiles.Carrier: ("__init__(self, counts, most)", "carry(self, rows)", "put(self, name, number)", "spend(self)"),
    recs.Worker: ("__init__(self, most)", "worth(self, term, row)"),
    tags.Tag: ("__init__(self, count, table)", "step(self, word)", "run(self, word, most)", "ring(self, word, most)",
               "shown(self)"),
    tags.Rounds: ("__init__(self, words)", "step(self, place, word)", "run(self, word, most)",
                  "history(self, word, count)", "shown(self)"),
    cells.Cells: ("__init__(self, number)", "of(self, left, here, right)", "step(self, row)",
                  "history(self, row, count)", "ring(self, row)", "ahead(self, row)", "went_on(self, ways, sign)",
                  "turned(self)", "swapped(self)", "shown(self)"),
    tells.Maker: ("__init__(self, count)", "fresh(self)", "read_from(self, machine, state, here, seen, size)",
                  "go_back(self, here, bit, size)", "write_back(self, row, here, bit, size)",
                  "going(self, move, after, size)"),
    desks.Desk: ("__init__(self)", "say(self, line)", "do(self, line)", "mine(self)",
                 "let(self, machine, state, tape, words)", "answer(self, words)"),
}


class Interface(unittest.TestCase):
    def test_functions(self):
        for module, told in FUNCTIONS.items():
            for one in told:
                function = getattr(module, one.partition("(")[0])
                self.assertEqual(function.__name__ + str(inspect.signature(function)), one)
                self.assertEqual(function.__module__, module.__name__)

    def test_methods(self):
        for kind, told in METHODS.items():
            for one in told:
                method = vars(kind)[one.partition("(")[0]]
                self.assertEqual(method.__name__ + str(inspect.signature(method)), one)

    def test_classes_stand_in_their_files(self):
        self.assertEqual(tapes.Tape.__module__, "turingwright.tapes")
        self.assertEqual(machines.Machine.__module__, "turingwright.machines")
        self.assertEqual(registers.Program.__module__, "turingwright.registers")
        self.assertEqual(whiles.Carrier.__module__, "turingwright.whiles")
        self.assertEqual(recs.Worker.__module__, "turingwright.recs")
        self.assertEqual(tags.Tag.__module__, "turingwright.tags")
        self.assertEqual(tags.Rounds.__module__, "turingwright.tags")
        self.assertEqual(cells.Cells.__module__, "turingwright.cells")
        self.assertEqual(tells.Maker.__module__, "turingwright.tells")
        self.assertEqual(desks.Desk.__module__, "turingwright.desks")
        self.assertEqual(errors.MachineFault.__module__, "turingwright.errors")


if __name__ == "__main__":
    unittest.main()
