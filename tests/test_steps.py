import itertools
import random
import unittest

import reference
from lines import DIGITS, MOVES, SIGNS, SPARED, Drawn
from rowsinplace import steps
from rowsinplace.errors import BadLine
from rowsinplace.plain import OPERATIONS
from rowsinplace.steps import Drop, Shift, Step, Write, read_step
from odd_objects import NO_NAMES

TERMS = list(DIGITS) + [base + more for base in reference.BASES for more in ("", " + 1", " - 1", " + 9", " - 9")]


class Reading(unittest.TestCase):
    def assertBad(self, line):
        with self.assertRaises(BadLine) as caught:
            read_step(line)
        self.assertEqual(caught.exception.line, line)

    def test_the_classes_stand_in_the_module_with_their_methods(self):
        for cls in (Step, Shift, Write, Drop):
            self.assertEqual(cls.__module__, "rowsinplace.steps")
            self.assertIn("reads", vars(cls))
            self.assertIn("__init__", vars(cls))
            self.assertTrue(issubclass(cls, Step))
        self.assertIs(vars(steps)["read_step"], read_step)

    def test_a_shift(self):
        step = read_step("shift home by -2")
        self.assertIs(type(step), Shift)
        self.assertEqual((step.guard, step.text), (None, "shift home by -2"))
        self.assertEqual((step.target, step.by, step.conditions, step.spared), ("home", -2, (), ()))
        step = read_step(line="when k + 2 <= old last to do shift all by 3 where place > x - 1 and place = 0 except y")
        self.assertEqual(step.guard, ("k", 2, "<=", "old last to", 0))
        self.assertEqual((step.target, step.by, step.spared), ("all", 3, ("y",)))
        self.assertEqual(step.conditions, ((">", "x", -1), ("=", "0", 0)))
        self.assertEqual(read_step("shift to by 1 except x and y").spared, ("x", "y"))
        self.assertEqual(read_step("shift to by 1 where place < 7 except x and y").spared, ("x", "y"))

    def test_each_move_and_each_list(self):
        for move in MOVES:
            for lst in ("home", "to", "all"):
                for spared in ("",) + SPARED:
                    text = f"shift {lst} by {move}" + (f" except {spared}" if spared else "")
                    step = read_step(text)
                    self.assertEqual((step.target, step.by), (lst, int(move)))
                    self.assertEqual(step.spared, tuple(spared.split(" and ")) if spared else ())

    def test_each_term_in_each_place(self):
        for text in TERMS:
            term = reference.split_term(text)
            for sign in SIGNS:
                step = read_step(f"shift to by 1 where place {sign} {text}")
                self.assertEqual(step.conditions, ((sign, *term),))
                step = read_step(f"when {text} {sign} k do drop x")
                self.assertEqual(step.guard, (*term, sign, "k", 0))
                step = read_step(f"when 9 {sign} {text} do drop x")
                self.assertEqual(step.guard, ("0", 9, sign, *term))
            for row in "xy":
                for lst in ("home", "to"):
                    step = read_step(f"write {row} {lst} {text}")
                    self.assertIs(type(step), Write)
                    self.assertEqual((step.guard, step.row, step.target, step.term), (None, row, lst, term))

    def test_one_to_three_conditions(self):
        for many in (1, 2, 3):
            for signs in itertools.product(SIGNS, repeat=many):
                conditions = " and ".join(f"place {sign} old count to - 3" for sign in signs)
                for spared in ("",) + SPARED:
                    text = f"shift home by 1 where {conditions}" + (f" except {spared}" if spared else "")
                    step = read_step(text)
                    self.assertEqual(step.conditions, tuple((sign, "old count to", -3) for sign in signs))
                    self.assertEqual(step.text, text)

    def test_a_drop_and_the_guards_without_a_sign(self):
        step = read_step("drop x")
        self.assertIs(type(step), Drop)
        self.assertEqual((step.guard, step.text, step.row), (None, "drop x", "x"))
        for guard in ("within", "apart"):
            for action in ("drop x", "shift to by 1", "write y home 3"):
                step = read_step(f"when {guard} do {action}")
                self.assertEqual(step.guard, (guard,))
                self.assertEqual(step.text, f"when {guard} do {action}")

    def test_reads(self):
        for line, bases in (
            ("drop x", []),
            ("shift all by 1", []),
            ("shift all by 1 where place > 3", []),
            ("when within do write x to 4", []),
            ("write y home old y - 1", ["old y"]),
            ("when k < x do drop x", ["k", "x"]),
            ("when x + 1 < x do write x home count home + 2", ["x", "count home"]),
            ("when k < 3 do write x home k", ["k"]),
            ("when old x > x do shift home by 1 where place > k and place < old x and place = old count home except y",
             ["old x", "x", "k", "old count home"]),
            ("shift to by 1 where place > 0 and place > old last to and place < count to",
             ["old last to", "count to"]),
        ):
            step = read_step(line)
            self.assertEqual(step.reads(), bases, line)
            self.assertEqual(bases, reference.bases_in(line))

    def test_reads_is_a_new_list_each_time(self):
        for line in ("when k > x do drop x", "write x to k", "shift to by 1 where place > k"):
            step = read_step(line)
            first = step.reads()
            expected = list(first)
            first.append("more")
            self.assertEqual(step.reads(), expected)
            self.assertIs(type(first), list)

    def test_a_step_alone(self):
        step = Step(("k", 0, "<", "x", 1), "when k < x + 1 do drop x")
        self.assertEqual((step.guard, step.text), (("k", 0, "<", "x", 1), "when k < x + 1 do drop x"))
        self.assertEqual(step.reads(), ["k", "x"])
        self.assertEqual(Step(None, "drop x").reads(), [])
        self.assertEqual(Step(guard=("apart",), text="").reads(), [])
        drop = Drop(guard=None, text="drop x", row="x")
        self.assertEqual((drop.guard, drop.text, drop.row, drop.reads()), (None, "drop x", "x", []))

    def test_any_object(self):
        for thing in NO_NAMES + [["drop x"], ("drop x",), "drop", "x"]:
            self.assertBad(thing)

    def test_what_is_no_line(self):
        for line in (
            "", " ", "drop y", "drop  x", "drop x ", " drop x", "drop x\n", "\ndrop x", "Drop x", "drop X",
            "shift x by 1", "shift home by 0", "shift home by 4", "shift home by -4", "shift home by +1",
            "shift home by 01", "shift home by --1", "shift home by", "shift home", "shift home by k",
            "shift home by 1 where", "shift home by 1 where ", "shift home by 1 where place", "shift home 1",
            "shift home by 1 where place > ", "shift home by 1 where place >", "shift home by 1 where k > place",
            "shift home by 1 where place > k and", "shift home by 1 where place > k and ",
            "shift home by 1 where and place > k", "shift home by 1 where place > k and k > 1",
            "shift home by 1 where place > k place < x", "shift home by 1 where place > k or place < x",
            "shift home by 1 where place >k", "shift home by 1 where place == k", "shift home by 1 where place != k",
            "shift home by 1 where place > 1 and place > 2 and place > 3 and place > 4",
            "shift home by 1 except", "shift home by 1 except ", "shift home by 1 except k", "shift home by 1 except x y",
            "shift home by 1 except y and x", "shift home by 1 except x and x", "shift home by 1 except x and",
            "shift home by 1 except x where place > k", "shift home by 1 except x except y",
            "shift home by 1 where place > k except x and y and x", "shift home by 1 where place > k where place < x",
            "shift home by 1 when within", "write x all k", "write z to k", "write x to", "write x k", "write x",
            "write x to k + 0", "write x to k - 0", "write x to k + 10", "write x to k + 01", "write x to k +1",
            "write x to k+1", "write x to k + x", "write x to 10", "write x to 00", "write x to -1", "write x to 1 + 1",
            "write x to k + 1 + 1", "write x to k * 2", "write x to", "write x to ", "write to x k", "write x to z",
            "write x to old k", "write x to old", "write x to count", "write x to count x", "write x to last to",
            "write x to old count", "write x to old last", "write x to old last all", "write x to count all",
            "write x to old old x", "write x to count  to", "write x to place", "write x to k except x",
            "write x to k where place > 1", "when do drop x", "when within drop x", "when within do",
            "when within do ", "when  within do drop x", "when within  do drop x", "when within do  drop x",
            "when within and apart do drop x", "when within do when apart do drop x", "within do drop x",
            "when k do drop x", "when k > do drop x", "when > k do drop x", "when k > x > y do drop x",
            "when place > k do drop x", "when k > x do", "when k > x", "do drop x", "when not within do drop x",
            "when k = x + 0 do drop x", "when k ! x do drop x", "drop x drop x", "drop x and y", "noop",
        ):
            self.assertFalse(reference.is_line(line), line)
            self.assertBad(line)

    def test_each_change_of_a_word(self):
        draw = random.Random(1)
        words = ["when", "do", "shift", "where", "place", "and", "except", "old", "count", "last", "home", "to", "all",
                 "x", "y", "k", "0", "3", "-3", "+", "-", "<", ">=", "=", "within", "by", "write", "drop", "", "12", "X"]
        lines = [line for seed in range(8) for op in OPERATIONS for line in Drawn(seed).handler(op)]
        bad = 0
        for line in sorted(set(lines)):
            self.assertEqual(read_step(line).text, line)
            for other in self.changed(line.split(" "), words, draw):
                text = " ".join(other)
                if reference.is_line(text):
                    self.assertEqual(read_step(text).text, text)
                    self.assertEqual(read_step(text).reads(), reference.bases_in(text))
                else:
                    self.assertBad(text)
                    bad += 1
        self.assertGreater(bad, 1000)

    def changed(self, parts, words, draw):
        """The words of a line with one of them left out, doubled, exchanged or another one."""
        for at in range(len(parts)):
            yield parts[:at] + parts[at + 1:]
            yield parts[:at] + [parts[at], parts[at]] + parts[at + 1:]
            yield parts[:at] + parts[at + 1:at + 2] + [parts[at]] + parts[at + 2:]
            yield parts[:at] + [draw.choice(words)] + parts[at + 1:]
            yield parts[:at] + [draw.choice(words)] + parts[at:]
            yield parts[:at] + [parts[at].upper() + "\n"] + parts[at + 1:]


if __name__ == "__main__":
    unittest.main()
