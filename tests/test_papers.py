"""[71]: the paper of code that passes, and papers that show, or do not show, that nothing goes wrong."""

import random
import unittest

from code_helper import END, CodeCase, main, part_of, verdict
from code_maker import changed, changed_paper, some_codes
from model_judge import code_fault, head_fault, is_shown, paper_rows, part_fault
from program_maker import made_programs
from test_memory import NO_LISTS
from upvalues.code import Code
from upvalues.compiler import compile_program
from upvalues.judge import is_paper, paper_of

ONE = ("load", 0, 1)
THREE = [("load", at, 1) for at in range(3)]


class PaperOfTest(CodeCase):
    def rows(self, *parts, **more):
        """The rows of the paper of one Code; it shows that nothing goes wrong."""
        codes = [main(*parts, **more)]
        paper = paper_of(codes)
        self.assertIs(is_paper(codes, paper), True)
        self.assertEqual(len(paper), 1)
        return paper[0]

    def test_the_example(self):
        part = [("load", 0, 5), ("round",), ("if", 0, 1), ("return", 0, 1, False)]
        c = [Code(0, False, 1, [("up", 0)], part, [1] * 4, [1] * 4)]
        told = [[((), (False,), (), (), (), 1), ((0,), (False,), (), (), (0,), 0), ((0,), (False,), (), (), (0,), 1), ((0,), (False,), (), (), (0,), 0)]]
        self.assertEqual([paper_of(c), is_paper(c, paper_of(c))], [told, True])
        self.assertIs(is_paper(codes=c, paper=paper_of(codes=c)), True)

    def test_places_without_a_way(self):
        self.assertEqual(self.rows(("jump", 2), ("round",), END), [((), (False,), (), (), (), 1), None, ((), (False,), (), (), (), 0)])

    def test_open_rows(self):
        rows = self.rows(ONE, ("dots", 1, None), ("call", 0, 0, True, None), ("return", 1, 0, True))
        self.assertEqual([row[1] for row in rows], [(False,), (False,), (True,), (True,)])

    def test_what_is_pending_on_some_way(self):
        rows = self.rows(("load", 2, None), ("load", 0, None), ("if", 0, 4), ("mark", 2), END)
        self.assertEqual([row[2] for row in rows], [(), (), (), (), (2,)])
        rows = self.rows(*THREE, ("mark", 0), ("mark", 2), ("close", 1), END)
        self.assertEqual([row[2] for row in rows[3:]], [(), (0,), (0, 2), (0,)])

    def test_plans_on_all_ways(self):
        rows = self.rows(*THREE, ("forbegin", 0, 6), ("round",), ("fornext", 0, 4), END)
        self.assertEqual([row[3] for row in rows], [(), (), (), (), (0,), (0,), ()])
        self.assertEqual([row[0] for row in rows[3:]], [(0, 1, 2), (0, 1, 2, 3), (0, 1, 2, 3), (0, 1, 2)])

    def test_what_is_needed(self):
        rows = self.rows(*THREE, ("if", 2, 5), ("move", 1, 0), ("return", 1, 1, False))
        self.assertEqual([row[4] for row in rows], [(), (0,), (0, 1), (0, 1), (0,), (1,)])

    def test_ranks(self):
        rows = self.rows(ONE, ("if", 0, 4), ("move", 1, 0), ("round",), ("move", 1, 0), ("move", 1, 0), END)
        self.assertEqual([row[5] for row in rows], [4, 3, 1, 0, 2, 1, 0])
        rows = self.rows(*THREE, ("call", 0, 0, False, 1), ("eachcall", 0, 0), ("tail", 0, 0, False))
        self.assertEqual([row[5] for row in rows], [3, 2, 1, 0, 0, 0])

    def test_params_are_written(self):
        codes = [main(END), part_of(("return", 1, 1, False), params=3)]
        self.assertEqual(paper_of(codes)[1], [((0, 1, 2), (False,), (), (), (1,), 0)])

    def test_all_is_new(self):
        codes = [main(ONE, END)]
        first, second = paper_of(codes), paper_of(codes)
        self.assertIsNot(first, second)
        self.assertIsNot(first[0], second[0])
        self.assertIsInstance(first, list)
        self.assertIsInstance(first[0], list)
        first[0].clear()
        self.assertEqual(len(second[0]), 2)

    def test_it_raises_as_check_code(self):
        self.assertEqual(verdict([main(("jump", 0))], paper_of), (0, 0, "loop"))
        self.assertEqual(verdict([main(END, lines=[401])], paper_of), (0, None, "form"))
        self.assertEqual(verdict([], paper_of), (None, None, "form"))


class IsPaperTest(CodeCase):
    codes = [main(ONE, ("round",), ("if", 0, 1), ("return", 0, 1, False))]
    rows = [((), (False,), (), (), (), 1), ((0,), (False,), (), (), (0,), 0), ((0,), (False,), (), (), (0,), 1), ((0,), (False,), (), (), (0,), 0)]

    def shows(self, at, place, value, codes=None, rows=None):
        """Whether the paper still shows all with one thing changed."""
        rows = list(self.rows if rows is None else rows)
        row = list(rows[at])
        row[place] = value
        rows[at] = tuple(row)
        return is_paper(self.codes if codes is None else codes, [rows])

    def test_things_that_are_no_papers(self):
        for thing in NO_LISTS + [[], [None], [[]], [[None] * 4], (self.rows,), [tuple(self.rows)], [self.rows, self.rows], [self.rows[:3]],
                                 [self.rows + [None]], self.rows, [[5] * 4]]:
            self.assertIs(is_paper(self.codes, thing), False)
        self.assertIs(is_paper(self.codes, [self.rows]), True)

    def test_the_form_of_rows(self):
        for place in (0, 2, 3, 4):
            for thing in (None, [0], 0, (True,), (False,), (0, 0), (1, 0), (-1,), (4,), ("0",), (None,), {}, (0.0,)):
                self.assertIs(self.shows(3, place, thing), False, (place, thing))
        for thing in (None, [False], (0,), (None,), (), (True, False), (False, False), (0, 1), "x", False, ([],)):
            self.assertIs(self.shows(3, 1, thing), False, thing)
        for thing in (-1, 2 ** 30 + 1, True, None, "1", 1.0, []):
            self.assertIs(self.shows(3, 5, thing), False, thing)
        for thing in (list(self.rows[3]), self.rows[3] + (1,), self.rows[3][:5], "row", 5):
            self.assertIs(is_paper(self.codes, [self.rows[:3] + [thing]]), False)

    def test_the_first_place(self):
        self.assertIs(is_paper(self.codes, [[None] + self.rows[1:]]), False)
        self.assertIs(self.shows(0, 0, (0,)), False)
        self.assertIs(self.shows(0, 3, (0,)), False)
        self.assertIs(self.shows(0, 1, (True,)), False)
        # Not all params need be told, and what is pending may be anything that does no harm.
        codes = [main(END), part_of(("return", 0, 1, False), params=2)]
        first = [((), (False,), (), (), (), 0)]
        for written, answer in [((0, 1), True), ((0,), True), ((), False), ((1,), False), ((0, 1, 2), False)]:
            self.assertIs(is_paper(codes, [first, [(written, (False,), (), (), (0,), 0)]]), answer)
        self.assertIs(is_paper(codes, [first, [((0,), (False,), (3,), (), (0,), 0)]]), True)

    def test_written(self):
        # Less may be told, as long as it is enough.
        codes = [main(ONE, ("load", 1, 1), ("return", 0, 1, False))]
        rows = paper_of(codes)[0]
        self.assertEqual(rows[2][0], (0, 1))
        self.assertIs(self.shows(2, 0, (0,), codes, rows), True)
        self.assertIs(self.shows(2, 0, (1,), codes, rows), False)
        self.assertIs(self.shows(2, 0, (0, 1, 2), codes, rows), False)

    def test_rows_left(self):
        self.assertIs(self.shows(3, 1, (False, True)), False)
        self.assertIs(self.shows(3, 1, (True,)), False)
        codes = [main(ONE, ("dots", 1, None), ("return", 1, 0, True))]
        rows = paper_of(codes)[0]
        for told in ((False,), (False, True)):
            self.assertIs(self.shows(2, 1, told, codes, rows), False)

    def test_pending(self):
        codes = [main(("load", 0, None), ("mark", 0), ("close", 0), ("tail", 0, 0, False))]
        rows = paper_of(codes)[0]
        self.assertIs(self.shows(2, 2, (), codes, rows), False)
        self.assertIs(self.shows(2, 2, (0, 3), codes, rows), True)
        self.assertIs(self.shows(3, 2, (0,), codes, rows), False)
        # More may be told where it does no harm.
        self.assertIs(self.shows(1, 2, (0,), codes, rows), False)
        self.assertIs(self.shows(0, 2, (0,), codes, rows), False)

    def test_plans(self):
        codes = [main(*THREE, ("forbegin", 0, 6), ("round",), ("fornext", 0, 4), END)]
        rows = paper_of(codes)[0]
        self.assertIs(self.shows(5, 3, (), codes, rows), False)
        self.assertIs(self.shows(4, 3, (), codes, rows), False)
        self.assertIs(self.shows(6, 3, (0,), codes, rows), False)
        self.assertIs(self.shows(4, 3, (0, 1), codes, rows), False)

    def test_needed(self):
        self.assertIs(self.shows(3, 4, ()), False)
        self.assertIs(self.shows(2, 4, ()), False)
        self.assertIs(self.shows(0, 4, (0, 1, 2, 3)), True)
        self.assertIs(self.shows(2, 4, (0, 1)), False)
        # More that is needed has to be live.
        codes = [main(ONE, ("load", 1, 1), ("call", 0, 0, False, 1), ("return", 0, 1, False), lives=[2, 2, 1, 1])]
        rows = paper_of(codes)[0]
        self.assertIs(self.shows(3, 4, (0, 1), codes, rows), False)
        rows = rows[:2] + [rows[2][:4] + ((0, 1),) + rows[2][5:]] + rows[3:]
        self.assertIs(self.shows(3, 4, (0, 1), codes, rows), False)

    def test_ranks(self):
        self.assertIs(self.shows(0, 5, 0), False)
        self.assertIs(self.shows(0, 5, 2), True)
        self.assertIs(self.shows(0, 5, 2 ** 30), True)
        # Behind a round, the rank may be any.
        self.assertIs(self.shows(2, 5, 2 ** 30), True)
        self.assertIs(self.shows(1, 5, 1), False)
        self.assertIs(self.shows(3, 5, 1), False)

    def test_rows_of_places_without_a_way(self):
        codes = [main(("jump", 2), ("move", 0, 1), END)]
        rows = paper_of(codes)[0]
        self.assertIs(is_paper(codes, [rows]), True)
        false = ((1,), (False,), (), (), (1,), 5)
        self.assertIs(is_paper(codes, [[rows[0], false, rows[2]]]), True)
        self.assertIs(is_paper(codes, [[rows[0], ((), (False,), (), (), (1,), 5), rows[2]]]), False)
        self.assertIs(is_paper(codes, [[rows[0], None, None]]), False)

    def test_code_that_does_not_pass_has_none(self):
        for parts in ([("jump", 0)], [("move", 0, 1), END], [ONE, ("return", 0, 0, True)], [("load", 0, None), ("mark", 0), ("tail", 0, 0, False)]):
            codes = [main(*parts)]
            for rank in (0, 1, 5):
                row = ((), (False,), (), (), (), rank)
                self.assertIs(is_paper(codes, [[row] * len(parts)]), False)

    def test_it_raises_for_what_has_not_its_form(self):
        def act(codes):
            return is_paper(codes, 5)
        self.assertEqual(verdict([], act), (None, None, "form"))
        self.assertEqual(verdict([main(END), part_of(END, lines=[-1])], act), (1, None, "form"))
        self.assertEqual(verdict([main(("move", 0, 1), END), part_of(("load", 9, 1), END)], act), (1, 0, "register"))
        self.assertEqual(verdict([main(("round",))], act), (0, 0, "end"))
        self.assertIsNone(verdict([main(("jump", 0))], act))


class ManyPapersTest(CodeCase):
    def test_many_papers(self):
        found = {True: 0, False: 0}
        good = [compile_program(program) for _, program in made_programs(6, 500)]
        for seed in range(450):
            chance = random.Random(seed)
            codes = some_codes(chance) if chance.random() < 0.5 else chance.choice(good)
            if chance.random() < 0.5:
                codes = changed(chance, codes)
            if code_fault(codes) is not None:
                self.check_refused(codes)
                continue
            paper = paper_of(codes)
            self.assertEqual(paper, [paper_rows(codes, code) for code in codes], seed)
            self.assertIs(is_paper(codes, paper), True)
            for _ in range(4):
                other = changed_paper(chance, codes, paper)
                answer = is_shown(codes, other)
                self.assertIs(is_paper(codes, other), answer, seed)
                found[answer] += 1
        self.assertGreater(min(found.values()), 100)

    def check_refused(self, codes):
        """No paper is one for code that is refused."""
        fault = head_fault(codes)
        for number in range(len(codes) if fault is None else 0):
            fault = fault or part_fault(codes, number)
        self.assertEqual(verdict(codes, lambda codes: is_paper(codes, None)), fault)
        if fault is None:
            everything = [[(tuple(range(code.params)), (False,), (), (), tuple(range(code.size)), 9)] * len(code.instructions) for code in codes]
            self.assertIs(is_paper(codes, everything), False)


if __name__ == "__main__":
    unittest.main()
