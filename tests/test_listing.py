"""Tests of [10.2]: sheets as text."""

import copy
import random
import unittest

from common import Shallow, every_policy, path_formula, some_formula, some_policy, wild_sheet
from countsworn.checker import check, refusal
from countsworn.clauses import residue_of
from countsworn.compiler import compile_sheet
from countsworn.errors import PackError
from countsworn.listing import read_sheet, show_sheet
from countsworn.policy import PLAIN, USUAL
from countsworn.residues import parts_of
from countsworn.sheets import is_open, trimmed
from countsworn.walks import sum_of


def nodes_for(*pairs):
    return tuple((residue_of(list(clauses)), rule) for clauses, rule in pairs)


class Show(unittest.TestCase):
    def shown(self, pairs, text):
        nodes = nodes_for(*pairs)
        sheet = (((1, 2, 3, 4), (5, 6, 7), nodes[-1][0]), nodes)
        before = copy.deepcopy(sheet)
        self.assertEqual(show_sheet(sheet), text)
        self.assertEqual(sheet, before)

    def test_leaves(self):
        self.shown([([], ("yes",))], "0: yes\n")
        self.shown([([()], ("no",))], "0: no\n")
        self.shown([([(1, 2)], ("open",))], "0: open\n")
        self.shown([([(3,), (-3,)], ("refuted", ((3,), ())))], "0: refuted [3] []\n")
        self.shown([([(3,), (-3,)], ("refuted", ((),)))], "0: refuted []\n")
        self.shown([([], ("refuted", ()))], "0: refuted\n")
        self.shown([([(-1, 2), (1,), (-2,)], ("refuted", ((-1, 2, -4), (12, 345), ())))],
                   "0: refuted [-1 2 -4] [12 345] []\n")
        self.shown([([(5, 6)], ("some", (5, -6)))], "0: some 5 -6\n")
        self.shown([([], ("some", ()))], "0: some\n")

    def test_children(self):
        yes = ([], ("yes",))
        self.shown([yes, ([(-3,)], ("unit", -3, 0))], "0: yes\n1: unit -3 @0\n")
        self.shown([yes, yes, ([(2,)], ("unit", 2, 1)), ([(2, 3)], ("choice", 2, 0, 1))],
                   "0: yes\n1: yes\n2: unit 2 @1\n3: choice 2 @0 @1\n")
        self.shown([yes, yes, ([(1,), (2,)], ("parts", (1, 0)))], "0: yes\n1: yes\n2: parts @1 @0\n")
        self.shown([yes, ([(1,), (2,)], ("parts", (0,)))], "0: yes\n1: parts @0\n")
        self.shown([yes, ([], ("parts", ()))], "0: yes\n1: parts\n")
        self.shown([yes] * 3 + [([(1, 2)], ("more", (-1, 4), 2))], "0: yes\n1: yes\n2: yes\n3: more [-1 4] @2\n")
        self.shown([yes, ([(1, 2)], ("more", (), 0))], "0: yes\n1: more [] @0\n")

    def test_less_shows_what_stays(self):
        self.shown([([(1,), (-2, 3)], ("open",)), ([(1,), (1, 2), (-2, 3)], ("less", 0))],
                   "0: open\n1: less @0 [1] [-2 3]\n")
        self.shown([([()], ("no",)), ([(), (1, 2)], ("less", 0))], "0: no\n1: less @0 []\n")

    def test_long_numbers(self):
        nodes = [([], ("yes",))] * 12 + [([(1,)], ("unit", 1, 10)), ([(1, 2)], ("choice", 1, 11, 12))]
        lines = show_sheet((((1, 2), (), ((1, 2),)), nodes_for(*nodes))).split("\n")
        self.assertEqual(lines[-4:], ["11: yes", "12: unit 1 @10", "13: choice 1 @11 @12", ""])

    def test_a_sheet_of_the_compiler(self):
        formula = ((1, 2, 3, 4), (5,), residue_of([(1, 2), (1, 2, 3), (-3, 4), (4, 5)]))
        sheet = compile_sheet(formula, USUAL)
        self.assertEqual(show_sheet(sheet).split("\n")[-2], f"{len(sheet[1]) - 1}: less @{len(sheet[1]) - 2} [1 2] "
                                                            "[-3 4] [4 5]")


# 1 or 2; 3; and 4 if 5: a formula with parts.
FORMULA = ((1, 2, 3, 4), (5,), residue_of([(1, 2), (3,), (4, -5)]))
TEXT = ("0: yes\n1: unit 2 @0\n2: choice 1 @0 @1\n3: unit -5 @0\n4: choice 4 @0 @3\n5: parts @2 @4\n6: unit 3 @5\n")


class Read(unittest.TestCase):
    def test_the_plain_text(self):
        sheet = read_sheet(FORMULA, TEXT)
        self.assertEqual(sheet, (FORMULA, nodes_for(
            ([], ("yes",)), ([(2,)], ("unit", 2, 0)), ([(1, 2)], ("choice", 1, 0, 1)), ([(-5,)], ("unit", -5, 0)),
            ([(4, -5)], ("choice", 4, 0, 3)), ([(1, 2), (4, -5)], ("parts", (2, 4))), (FORMULA[2], ("unit", 3, 5)))))
        self.assertTrue(check(FORMULA, sheet))
        self.assertEqual(show_sheet(sheet), TEXT)
        self.assertIsInstance(sheet[1], tuple)

    def test_blanks_and_empty_lines(self):
        sheet = read_sheet(FORMULA, TEXT)
        for text in (TEXT[:-1], TEXT.replace(" ", "   "), TEXT.replace("\n", "  \n"), "\n\n" + TEXT, "   \n" + TEXT,
                     TEXT + "\n\n   \n", TEXT + "   ", TEXT[:-1] + "    ", TEXT.replace("\n", "\n\n  \n"),
                     TEXT.replace(" @", "  @").replace(": ", ":    ")):
            self.assertEqual(read_sheet(FORMULA, text), sheet, text)

    def test_blanks_between_literals(self):
        formula = ((1, 2, 3), (), residue_of([(1, 2), (1, 2, 3)]))
        wanted = (formula, nodes_for(([(1, 2)], ("open",)), (formula[2], ("less", 0))))
        for text in ("0: open\n1: less @0 [1 2]\n", "0:  open  \n1: less @0 [1   2]", "0: open\n\n1:   less   @0   [1  2] "):
            self.assertEqual(read_sheet(formula, text), wanted)
        formula = ((1, 2, 3), (), residue_of([(1,), (-1,)]))
        for text in ("0: refuted [-1 2] []\n", "0: refuted   [-1    2]    []   "):
            self.assertEqual(read_sheet(formula, text), (formula, ((formula[2], ("refuted", ((-1, 2), ()))),)))
        formula = ((1, 2, 3), (), residue_of([(1, 2), (1, -2), (2, 3)]))
        sheet = read_sheet(formula, "0: open\n1: more [1   3]   @0")
        self.assertEqual(sheet[1], nodes_for((list(formula[2]) + [(1, 3)], ("open",)), (formula[2], ("more", (1, 3), 0))))
        self.assertTrue(check(formula, sheet))

    def test_each_leaf(self):
        for text, rule in (("0: yes", ("yes",)), ("0: no", ("no",)), ("0: open", ("open",)),
                           ("0: refuted", ("refuted", ())), ("0: refuted []", ("refuted", ((),))),
                           ("0: refuted [1] [-2 7] []", ("refuted", ((1,), (-2, 7), ()))), ("0: some", ("some", ())),
                           ("0: some 1 -999 2", ("some", (1, -999, 2))), ("0: some -1 1", ("some", (-1, 1)))):
            self.assertEqual(read_sheet(FORMULA, text), (FORMULA, ((FORMULA[2], rule),)))

    def test_residues_of_every_rule(self):
        formula = ((1, 2, 3), (), residue_of([(1,), (1, 2), (-2, 3)]))
        sheet = read_sheet(formula, "0: yes\n1: open\n2: choice 3 @0 @1\n3: unit 1 @2\n4: more [2 3] @3\n")
        rows = [(1,), (1, 2), (-2, 3), (2, 3)]
        self.assertNotEqual(sheet, None)
        self.assertEqual(sheet[1], nodes_for(
            ([], ("yes",)), ([(-2,), (2,)], ("open",)), ([(-2, 3), (2, 3)], ("choice", 3, 0, 1)), (rows, ("unit", 1, 2)),
            (formula[2], ("more", (2, 3), 3))))

    def test_parts_in_order(self):
        sheet = read_sheet(FORMULA, "0: open\n1: open\n2: open\n3: parts @2 @0 @1")
        self.assertEqual([node[0] for node in sheet[1][:3]], [((3,),), ((4, -5),), ((1, 2),)])
        self.assertTrue(check(FORMULA, sheet))

    def test_the_same_said_twice(self):
        formula = ((1, 2), (), residue_of([(1, 2), (-1, 2)]))
        sheet = read_sheet(formula, "0: open\n1: choice 1 @0 @0")
        self.assertEqual(sheet[1], nodes_for(([(2,)], ("open",)), (formula[2], ("choice", 1, 0, 0))))

    def test_what_the_checker_refuses_is_read(self):
        for text, word in (("0: yes\n", "yes"), ("0: no", "no"), ("0: refuted []", "refuted"), ("0: some 1", "some"),
                           ("0: open\n1: unit 2 @0", "unit"), ("0: open\n1: open\n2: choice 5 @0 @1", "choice"),
                           ("0: open\n1: more [3] @0", "more"), ("0: open\n1: less @0 [1 2]", "less")):
            sheet = read_sheet(FORMULA, text)
            self.assertEqual(refusal(FORMULA, sheet), (len(sheet[1]) - 1, word))


class Refused(unittest.TestCase):
    def refused(self, text, at, formula=FORMULA):
        with self.assertRaises(PackError) as caught:
            read_sheet(formula, text)
        self.assertEqual(caught.exception.at, at, text)

    def test_no_node(self):
        for text in ("", " ", "\n", "\n\n   \n", "    "):
            self.refused(text, 0)

    def test_numbers(self):
        for text in ("1: yes", "00: yes", "-0: yes", "+0: yes", "0 : yes", "0", "0:", "0yes", "0:yes", ": yes", "yes",
                     "a: yes", "0:: yes", "0; yes", " 0: yes", "   0: yes", "@0: yes", "0. yes", "0: 0: yes", "\t0: yes"):
            self.refused(text, 1)
        for text in ("0: yes\n0: yes", "0: yes\n2: unit 3 @0", "0: yes\n1 unit 3 @0", "0: yes\n01: unit 3 @0",
                     "0: yes\n 1: unit 3 @0"):
            self.refused(text, 2)
        self.refused("\n  \n0: yes\n\n2: unit 3 @0\n", 5)
        self.refused(TEXT + "\n6: yes", 9)
        self.refused(TEXT.replace("4:", "5:"), 5)

    def test_words(self):
        for word in ("yess", "Yes", "YES", "y", "units", "", "0", "@0", "[]", "ye s", "open.", "true", "yes\t", "yes\r"):
            self.refused("0: " + word, 1)
            self.refused("0: yes\n1: unit 3 @0\n\n2: " + word, 4)

    def test_too_few_and_too_many_items(self):
        for line in ("yes 1", "yes @0", "yes []", "yes yes", "no 1", "no @0", "open 1", "open @0", "open []", "unit",
                     "unit 3", "unit @0", "unit 3 @0 @0", "unit 3 3 @0", "unit 3 @0 []", "choice", "choice 3",
                     "choice 3 @0", "choice 3 @0 @0 @0", "choice 3 3 @0", "choice @0 @0", "choice 3 @0 @0 3", "more",
                     "more [1]", "more @0", "more [1] @0 @0", "more [1] [2] @0", "more [1] @0 [2]", "less",
                     "less [1]", "less @0 @0 [1]", "less @0 [1] @0", "less @0 1", "less [1] @0", "parts 1",
                     "parts @0 1", "parts @0 []", "some @0", "some []", "some 1 @0", "refuted @0", "refuted [] @0",
                     "refuted 1", "refuted [] 1"):
            self.refused("0: yes\n1: " + line, 2)
            self.refused("0: yes\n1: " + line + "\n1: what", 2)

    def test_children(self):
        for child in ("@1", "@2", "@100", "@-1", "@", "@a", "@00", "@01", "@+0", "0", "@ 0", "@0.", "@@0", "0@", "-@0",
                      "@0x", "@\u0660", "@" + "9" * 5000):
            for line in ("unit 3 " + child, "choice 3 @0 " + child, "choice 3 " + child + " @0", "parts @0 " + child,
                         "parts " + child, "more [1] " + child, "less " + child + " [3]"):
                self.refused("0: yes\n1: " + line, 2)

    def test_literals_and_variables(self):
        for literal in ("0", "-0", "1000", "-1000", "99999999999", "+1", "01", "-01", "--1", "- 1", "1.", "a", "x1", "1,",
                        "\u0661", "-"):
            for line in ("unit " + literal + " @0", "choice " + literal + " @0 @0", "some " + literal,
                         "some 1 " + literal, "more [" + literal + "] @0", "refuted [" + literal + "]",
                         "refuted [1] [1 " + literal + "]", "less @0 [" + literal + "]"):
                self.refused("0: yes\n1: " + line, 2)
        for variable in ("-1", "-3", "-999"):
            self.refused("0: yes\n1: choice " + variable + " @0 @0", 2)

    def test_brackets(self):
        for clause in ("1", "(1)", "[1", "1]", "[", "]", "[[1]]", "[1]]", "[[1]", "[1][2]", "[1]2", "2[1]", "[1,2]", "{1}",
                       "[2 1]", "[1 1]", "[1 -1]", "[-1 1]", "[1 2", "1 2]", "[1 [2]]", "[]]", "[[]", "[][]", "][",
                       "[ 1]", "[1 ]", "[ ]", "[a]", "[@0]", "[1]@0", "[1\t2]"):
            for line in ("refuted " + clause, "refuted " + clause + " []", "refuted [] " + clause,
                         "more " + clause + " @0", "less @0 " + clause, "less @0 [1] " + clause):
                self.refused("0: yes\n1: " + line, 2)

    def test_the_first_line(self):
        self.refused("0: yes\n1: what\n5: yes\n", 2)
        self.refused("0: what\n1: what\n", 1)
        # A line that is not of the form is told ahead of what is wrong between the lines.
        self.refused("0: yes\n1: yes\n2: unit 3 @0\n3: what", 4)
        self.refused("0: yes\n1: parts @0\n2: what", 3)

    def test_not_reached(self):
        self.refused("0: yes\n1: open", 0)
        self.refused("0: yes\n1: open\n2: unit 3 @0", 0)
        self.refused("0: yes\n1: unit 3 @0\n2: open\n3: unit 3 @2", 0)
        self.refused(TEXT + "7: open\n", 0)
        self.refused("0: yes\n" + TEXT.replace("0:", "1:", 1), 3)

    def test_parts_of_another_number(self):
        self.refused("0: open\n1: open\n2: parts @0 @1", 0)
        self.refused("0: open\n1: open\n2: open\n3: open\n4: parts @0 @1 @2 @3", 0)
        self.refused("0: open\n1: parts @0", 0)
        self.refused("0: parts", 0)
        one = ((1, 2), (), residue_of([(1, 2)]))
        self.assertEqual(read_sheet(one, "0: open\n1: parts @0")[1], ((one[2], ("open",)), (one[2], ("parts", (0,)))))
        self.refused("0: open\n1: open\n2: parts @0 @1", 0, one)
        self.refused("0: open\n1: parts @0", 0, ((), (), ()))

    def test_parts_of_the_empty_clause(self):
        formula = ((1, 2), (), residue_of([(), (1,), (2,)]))
        for text in ("0: open\n1: parts @0", "0: open\n1: open\n2: parts @0 @1",
                     "0: open\n1: open\n2: open\n3: parts @0 @1 @2"):
            self.refused(text, 0, formula)

    def test_less_that_does_not_say_what_stays(self):
        self.refused("0: open\n1: less @0", 0)
        self.refused("0: yes\n1: less @0", 0)

    def test_two_rules_that_say_different_residues(self):
        self.refused("0: open\n1: choice 1 @0 @0", 0)
        self.refused("0: open\n1: choice 4 @0 @0\n2: unit 3 @1", 0)
        self.refused("0: open\n1: unit 3 @0\n2: choice 1 @1 @0", 0)
        self.refused("0: open\n1: open\n2: parts @0 @0 @1", 0)
        self.refused("0: open\n1: less @0 [3]\n2: choice 1 @1 @0", 0)
        self.refused(TEXT.replace("@3", "@1"), 0)


class BackAndForth(unittest.TestCase):
    def one(self, formula, sheet):
        before = copy.deepcopy(sheet)
        text = show_sheet(sheet)
        found = read_sheet(formula, text)
        self.assertEqual(found, sheet)
        self.assertTrue(check(formula, found))
        self.assertEqual(show_sheet(found), text)
        self.assertEqual(sheet, before)

    def test_sheets_of_every_policy(self):
        source = random.Random(1021)
        for turn in range(15):
            formula = some_formula(source)
            for policy in every_policy():
                self.one(formula, compile_sheet(formula, policy))
                self.one(formula, compile_sheet(formula, policy, fuel=source.randint(0, 4)))

    def test_sheets_of_all_kinds(self):
        source = random.Random(1022)
        many = 0
        for turn in range(500):
            formula = some_formula(source)
            sheet = trimmed(wild_sheet(source, formula, 0.1))
            plain = all(tuple(parts_of(residue)) == tuple(sheet[1][child][0] for child in rule[1])
                        for residue, rule in sheet[1] if rule[0] == "parts")
            if plain:
                many += 1
                self.one(formula, sheet)
            else:
                # The order of the parts is told by the residue alone, so that other parts come back, or none.
                try:
                    self.assertNotEqual(read_sheet(formula, show_sheet(sheet)), sheet)
                except PackError as error:
                    self.assertEqual(error.at, 0)
        self.assertGreater(many, 300)

    def test_blanks_anywhere_they_may_stand(self):
        source = random.Random(1023)
        for turn in range(100):
            formula = some_formula(source)
            sheet = compile_sheet(formula, some_policy(source), fuel=source.choice([2, 1000]))
            lines = []
            for line in show_sheet(sheet).split("\n")[:-1]:
                lines.append("".join(" " * source.randint(1, 3) if sign == " " else sign for sign in line) +
                             " " * source.randint(0, 2))
                lines += ["", "  "][:source.choice([0, 0, 1, 2])]
            text = "\n".join(lines) + source.choice(["", "\n", "\n \n"])
            self.assertEqual(read_sheet(formula, text), sheet)

    def test_changed_texts(self):
        # Whatever is read of them: if the checker takes it, its sum is the formula's.
        source = random.Random(1024)
        taken = 0
        for turn in range(3000):
            formula = some_formula(source, clauses=6)
            sheet = compile_sheet(formula, source.choice([PLAIN, USUAL]))
            text = show_sheet(sheet)
            at = source.randrange(len(text))
            text = text[:at] + source.choice(["", "0", "1", "2", "-", " ", "@", "[", "]", "\n"]) + text[at + 1:]
            try:
                found = read_sheet(formula, text)
            except PackError as error:
                self.assertTrue(0 <= error.at <= text.count("\n") + 1)
            else:
                if check(formula, found) and not is_open(found):
                    taken += 1
                    self.assertEqual(sum_of(found, ()), sum_of(sheet, ()))
        self.assertGreater(taken, 50)

    def test_a_large_sheet(self):
        with Shallow():
            formula = path_formula(999)
            for policy in (USUAL, (("least",), False, True, False, False)):
                sheet = compile_sheet(formula, policy)
                self.assertEqual(read_sheet(formula, show_sheet(sheet)), sheet)


if __name__ == "__main__":
    unittest.main()
