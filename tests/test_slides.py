import random
import unittest

from rowsinplace import slides
from rowsinplace.errors import BadSlide, NoInverse
from rowsinplace.slides import Slide
from odd_objects import BIG, NO_INTEGERS

NO_PIECES = [
    *NO_INTEGERS, 5, BIG, [1, 2, 3], (1, 2), (1, 2, 3, 4), ((1, 2, 3),),
    (True, 2, 1), (0, True, 1), (False, 2, 1), (0, 1, True), (0, 1, False), (None, None, True),
    ("1", 2, 1), (1, "2", 1), (1, 2, "1"), (1, 2, None), (None, None, None), ([1], 2, 1), (1, (2,), 1),
    (2, 1, 1), (2, 1, 0), (0, -1, 5), (BIG, BIG - 1, 1),
]


def plain(pieces, p):
    """Where a slide of these pieces moves p, as the document says it."""
    for low, high, by in pieces:
        if (low is None or low <= p) and (high is None or p <= high):
            return p + by
    return p


def random_pieces(chance, most=5, reach=6):
    """Pieces without an integer in common, in any order."""
    cuts = sorted(chance.sample(range(-reach, reach + 1), chance.randint(0, most)))
    ends = [None, *cuts, None]
    pieces = []
    for low, following in zip(ends, ends[1:]):
        high = None if following is None else following - 1
        if low is None or high is None or low <= high:
            pieces.append((low, high, chance.randint(-3, 3)))
    pieces = [piece for piece in pieces if chance.random() < 0.7]
    chance.shuffle(pieces)
    return pieces


def plain_fault(move, count):
    """first_fault as the document says it, by looking at each integer."""
    numbers = range(1, count + 1)
    for p in numbers:
        if move(p) < 1:
            return ("low", p)
    for p in numbers:
        if move(p) > count:
            return ("high", p)
    for q in numbers:
        for p in range(1, q):
            if move(p) == move(q):
                return ("double", p, q)
    return None


class Pieces(unittest.TestCase):
    def test_the_class_stands_in_the_module_with_all_its_methods(self):
        self.assertEqual(Slide.__module__, "rowsinplace.slides")
        self.assertIs(vars(slides)["Slide"], Slide)
        for name in ("__init__", "__call__", "__rshift__", "__add__", "__radd__", "__eq__", "__abs__", "__len__",
                     "__bool__", "__contains__", "__iter__", "first_fault", "inverse"):
            self.assertIn(name, vars(Slide))

    def test_normal_form(self):
        for given, normal in [
            ([], ()),
            ([(1, 5, 2)], ((1, 5, 2),)),
            ([(1, 1, -2)], ((1, 1, -2),)),
            ([(None, 3, 1)], ((None, 3, 1),)),
            ([(3, None, 1)], ((3, None, 1),)),
            ([(None, None, 1)], ((None, None, 1),)),
            ([(1, 5, 0)], ()),
            ([(None, None, 0)], ()),
            ([(None, 0, 0), (1, None, 0)], ()),
            ([(1, 5, 0), (6, 7, 1)], ((6, 7, 1),)),
            ([(7, 9, 1), (1, 2, 3)], ((1, 2, 3), (7, 9, 1))),
            ([(1, None, 2), (None, -1, 3)], ((None, -1, 3), (1, None, 2))),
            ([(1, 2, 3), (3, 4, 3)], ((1, 4, 3),)),
            ([(3, 4, 3), (5, 6, 3), (1, 2, 3)], ((1, 6, 3),)),
            ([(1, None, 3), (None, 0, 3)], ((None, None, 3),)),
            ([(1, 2, 3), (3, 4, 2)], ((1, 2, 3), (3, 4, 2))),
            ([(1, 2, 3), (4, 5, 3)], ((1, 2, 3), (4, 5, 3))),
            ([(1, 2, 3), (3, 3, 0), (4, 5, 3)], ((1, 2, 3), (4, 5, 3))),
            ([(-BIG, BIG, BIG), (BIG + 1, BIG + 1, BIG)], ((-BIG, BIG + 1, BIG),)),
        ]:
            slide = Slide(*given)
            self.assertEqual(slide.pieces, normal)
            self.assertIs(type(slide.pieces), tuple)
            self.assertTrue(all([type(piece) is tuple for piece in slide.pieces]))

    def test_eight_pieces_and_more(self):
        for many in (8, 12, 300):
            pieces = [(10 * at, 10 * at + 3, at + 1) for at in range(many)]
            self.assertEqual(Slide(*reversed(pieces)).pieces, tuple(pieces))

    def test_random_pieces_move_alike_in_normal_form(self):
        chance = random.Random(1)
        for _ in range(500):
            pieces = random_pieces(chance)
            slide = Slide(*pieces)
            for p in range(-12, 13):
                self.assertEqual(slide(p), plain(pieces, p))
                self.assertEqual(plain(slide.pieces, p), plain(pieces, p))
            for low, high, by in slide.pieces:
                self.assertNotEqual(by, 0)
            for piece, other in zip(slide.pieces, slide.pieces[1:]):
                self.assertLess(piece[1], other[0])
                self.assertFalse(piece[1] + 1 == other[0] and piece[2] == other[2])


class WrongPieces(unittest.TestCase):
    def index_of(self, *pieces):
        with self.assertRaises(BadSlide) as caught:
            Slide(*pieces)
        return caught.exception.index

    def test_objects_that_are_no_piece(self):
        for thing in NO_PIECES:
            self.assertEqual(self.index_of(thing), 0, thing)
            self.assertEqual(self.index_of((100, 101, 1), (-100, -99, 0), thing), 2, thing)
            self.assertEqual(self.index_of((100, 101, 1), thing, thing, (100, 101, 1)), 1, thing)

    def test_an_integer_in_common(self):
        for first, second in [
            ((1, 5, 1), (5, 9, 2)),
            ((5, 9, 1), (1, 5, 2)),
            ((1, 5, 1), (1, 5, 1)),
            ((1, 9, 1), (3, 4, 1)),
            ((3, 4, 1), (1, 9, 1)),
            ((1, 5, 0), (5, 9, 2)),
            ((1, 5, 1), (5, 9, 0)),
            ((1, 5, 0), (5, 9, 0)),
            ((None, None, 0), (7, 7, 1)),
            ((7, 7, 1), (None, None, 0)),
            ((None, 3, 1), (None, 1, 1)),
            ((3, None, 1), (5, None, 1)),
            ((None, 3, 1), (3, None, 1)),
            ((3, None, 1), (None, 3, 1)),
            ((-BIG, BIG, 1), (BIG, BIG, 1)),
        ]:
            self.assertEqual(self.index_of(first, second), 1)
            self.assertEqual(self.index_of(first, second, None, second), 1)

    def test_the_first_of_several(self):
        self.assertEqual(self.index_of((10, 12, 1), (1, 3, 1), (5, 7, 1), (7, 10, 1), "x"), 3)
        self.assertEqual(self.index_of((10, 12, 1), (1, 3, 1), (3, 4, 0), (7, 10, 1)), 2)
        self.assertEqual(self.index_of((10, 12, 1), "x", (1, 30, 1)), 1)
        self.assertEqual(self.index_of((10, 12, 1), (2, 2, 0), (14, None, 1), (None, 2, 1)), 3)

    def test_against_looking_at_each_integer(self):
        chance = random.Random(2)
        for _ in range(1000):
            pieces = []
            for _ in range(chance.randint(0, 5)):
                low = chance.randint(-9, 9)
                pieces.append((low, low + chance.randint(0, 4), chance.randint(-1, 1)))
            wrong = [at for at in range(len(pieces))
                     if any([low <= p <= high for low, high, _ in pieces[:at]
                             for p in range(pieces[at][0], pieces[at][1] + 1)])]
            if wrong:
                self.assertEqual(self.index_of(*pieces), wrong[0])
            else:
                Slide(*pieces)


class Values(unittest.TestCase):
    def test_moving(self):
        slide = Slide((None, 0, -2), (3, 5, 10), (8, None, BIG))
        moved = {-BIG: -BIG - 2, -1: -3, 0: -2, 1: 1, 2: 2, 3: 13, 5: 15, 6: 6, 7: 7, 8: 8 + BIG, BIG: 2 * BIG}
        self.assertEqual({p: slide(p) for p in moved}, moved)
        self.assertEqual(Slide()(5), 5)

    def test_one_behind_the_other(self):
        self.assertEqual((Slide((1, 1, 1)) >> Slide((2, 2, 5))).pieces, ((1, 1, 6), (2, 2, 5)))
        self.assertEqual((Slide((2, 2, 5)) >> Slide((1, 1, 1))).pieces, ((1, 1, 1), (2, 2, 5)))
        self.assertEqual((Slide((1, 9, 1)) >> Slide((2, 10, -1))).pieces, ((10, 10, -1),))
        self.assertEqual((Slide((None, None, BIG)) >> Slide((None, None, -BIG))).pieces, ())
        self.assertEqual((Slide() >> Slide()).pieces, ())

    def test_random_slides_behind_each_other(self):
        chance = random.Random(3)
        for _ in range(500):
            first, second = Slide(*random_pieces(chance)), Slide(*random_pieces(chance))
            both = first >> second
            for p in range(-15, 16):
                self.assertEqual(both(p), second(first(p)))
            self.assertEqual(Slide(*both.pieces).pieces, both.pieces)

    def test_random_slides_and_constants(self):
        chance = random.Random(4)
        for _ in range(300):
            slide, by = Slide(*random_pieces(chance)), chance.choice([0, 1, -1, 5, -4, BIG, -BIG])
            behind, ahead = slide + by, by + slide
            for p in range(-15, 16):
                self.assertEqual(behind(p), slide(p) + by)
                self.assertEqual(ahead(p - by), slide(p))
            self.assertEqual(behind, slide >> Slide((None, None, by)))
            self.assertEqual(ahead, Slide((None, None, by)) >> slide)

    def test_constants(self):
        slide = Slide((1, 3, 2))
        self.assertEqual((slide + 1).pieces, ((None, 0, 1), (1, 3, 3), (4, None, 1)))
        self.assertEqual((1 + slide).pieces, ((None, -1, 1), (0, 2, 3), (3, None, 1)))
        self.assertEqual((slide + -2).pieces, ((None, 0, -2), (4, None, -2)))
        self.assertEqual(slide + 0, slide)
        self.assertEqual(0 + slide, slide)
        self.assertEqual((Slide() + 7).pieces, ((None, None, 7),))

    def test_operators_leave_the_slides_as_they_are(self):
        first, second = Slide((1, 3, 2)), Slide((2, None, -1))
        kept = first
        first >>= second
        first += 3
        self.assertEqual(kept.pieces, ((1, 3, 2),))
        self.assertEqual(second.pieces, ((2, None, -1),))
        self.assertEqual(first(1), 5)

    def test_wrong_kinds(self):
        slide = Slide((1, 3, 2))
        for thing in (None, "a", [1], (1, 2, 3)):
            with self.assertRaises(TypeError):
                slide >> thing
            with self.assertRaises(TypeError):
                slide + thing
            with self.assertRaises(TypeError):
                thing + slide

    def test_equal(self):
        slide = Slide((1, 2, 3), (3, 4, 3), (9, 9, 0))
        self.assertTrue(slide == Slide((1, 4, 3)))
        self.assertFalse(slide != Slide((1, 4, 3)))
        for other in (Slide(), Slide((1, 4, 2)), Slide((1, 5, 3)), Slide((0, 4, 3)), Slide((1, None, 3))):
            self.assertFalse(slide == other)
            self.assertTrue(slide != other)
        self.assertTrue(Slide() == Slide((5, 7, 0)))

    def test_equal_to_nothing_of_another_class(self):
        for thing in [*NO_INTEGERS, 0, 1, ((1, 4, 3),), [(1, 4, 3)]]:
            self.assertFalse(Slide((1, 4, 3)) == thing)
            self.assertFalse(thing == Slide((1, 4, 3)))
            self.assertFalse(Slide() == thing)

    def test_abs_len_and_truth(self):
        for pieces, far, many in [
            ([], 0, 0),
            ([(1, 5, 0)], 0, 0),
            ([(1, 5, -7), (6, 9, 3)], 7, 2),
            ([(1, 5, 2), (6, 9, 2), (12, None, 1)], 2, 2),
            ([(None, None, -BIG)], BIG, 1),
        ]:
            slide = Slide(*pieces)
            self.assertEqual(abs(slide), far)
            self.assertEqual(len(slide), many)
            self.assertIs(bool(slide), many > 0)

    def test_iteration(self):
        slide = Slide((8, None, 2), (1, 3, 1))
        self.assertEqual(list(slide), [(1, 3, 1), (8, None, 2)])
        self.assertEqual([by for low, high, by in slide], [1, 2])
        self.assertEqual(list(Slide()), [])

    def test_in(self):
        slide = Slide((None, -5, 1), (0, 1, 2), (2, 3, 0), (BIG, None, -1))
        for p in (-BIG, -5, 0, 1, BIG, 2 * BIG):
            self.assertIs(p in slide, True)
        for p in (-4, -1, 2, 3, 4, BIG - 1):
            self.assertIs(p in slide, False)
        for thing in [*NO_INTEGERS, (0, 1, 2)]:
            self.assertIs(thing in slide, False)
            self.assertIs(thing in Slide((None, None, 1)), False)
        self.assertIs(0 in Slide(), False)


class FirstFault(unittest.TestCase):
    def test_each_answer(self):
        for pieces, count, fault in [
            ([], 0, None),
            ([], 5, None),
            ([(None, None, 1)], 0, None),
            ([(1, 3, 1), (4, 4, -3)], 4, None),
            ([(1, 3, 1), (4, 4, -3)], 3, ("high", 3)),
            ([(1, 3, 1), (4, 4, -3)], 5, None),
            ([(3, 4, -3)], 5, ("low", 3)),
            ([(3, 4, -2)], 5, ("double", 1, 3)),
            ([(None, None, -1)], 5, ("low", 1)),
            ([(None, None, 1)], 5, ("high", 5)),
            ([(1, 1, 9), (5, 5, -9)], 5, ("low", 5)),
            ([(2, 2, 9), (5, 5, -1)], 5, ("high", 2)),
            ([(1, 2, 3)], 5, ("double", 1, 4)),
            ([(2, 2, 3), (4, 4, 1)], 5, ("double", 2, 4)),
            ([(3, 3, 2), (2, 2, 2)], 5, ("double", 2, 4)),
            ([(2, 2, 3), (4, 4, -1)], 5, ("double", 3, 4)),
            ([(5, 5, 1)], 5, ("high", 5)),
            ([(5, 5, 1)], 4, None),
            ([(0, 0, 1), (6, 6, -1)], 5, None),
        ]:
            self.assertEqual(Slide(*pieces).first_fault(count), fault, (pieces, count))

    def test_against_looking_at_each_integer(self):
        chance = random.Random(5)
        seen = set()
        for _ in range(3000):
            slide, count = Slide(*random_pieces(chance, reach=9)), chance.randint(0, 9)
            fault = plain_fault(slide, count)
            seen.add(fault and fault[0])
            self.assertEqual(slide.first_fault(count), fault, (slide.pieces, count))
        self.assertEqual(seen, {None, "low", "high", "double"})

    def test_rotations_have_none(self):
        for count in (2, 7, BIG):
            for by in (1, count // 2, count - 1):
                slide = Slide((1, count - by, by), (count - by + 1, count, by - count))
                self.assertIsNone(slide.first_fault(count))
                self.assertIsNone(slide.first_fault(count + 1))
                self.assertEqual(slide.first_fault(count - 1), ("high", count - by))

    def test_thirty_digits(self):
        count = 10 ** 29
        self.assertIsNone(Slide().first_fault(count))
        self.assertEqual(Slide((5, None, 1)).first_fault(count), ("high", count))
        self.assertEqual(Slide((None, None, -BIG)).first_fault(count), ("low", 1))
        self.assertEqual(Slide((7, count, -6)).first_fault(count), ("double", 1, 7))
        self.assertEqual(Slide((count // 2, count - 1, 1)).first_fault(count), ("double", count - 1, count))
        self.assertEqual(Slide((2, count, -count)).first_fault(count), ("low", 2))


class Inverse(unittest.TestCase):
    def test_undoing(self):
        for pieces, undone in [
            ([], ()),
            ([(None, None, 5)], ((None, None, -5),)),
            ([(1, 3, 1), (4, 4, -3)], ((1, 1, 3), (2, 4, -1))),
            ([(1, 1, 1), (2, 2, -1)], ((1, 1, 1), (2, 2, -1))),
            ([(None, 0, 2), (1, 1, 5), (2, 4, -1), (5, None, 2)], None),
            ([(1, BIG, 1), (BIG + 1, BIG + 1, -BIG)], ((1, 1, BIG), (2, BIG + 1, -1))),
        ]:
            slide = Slide(*pieces)
            if undone is None:
                self.assertRaises(NoInverse, slide.inverse)
            else:
                self.assertEqual(slide.inverse().pieces, undone)
                self.assertEqual(slide.inverse().inverse(), slide)
                self.assertEqual(slide >> slide.inverse(), Slide())
                self.assertEqual(slide.inverse() >> slide, Slide())

    def test_none(self):
        for pieces in [
            [(1, 1, 1)],
            [(1, None, 1)],
            [(None, 1, -1)],
            [(None, 1, 1)],
            [(1, None, -1)],
            [(None, 0, -1), (1, None, 1)],
            [(None, 0, 1), (1, None, -1)],
            [(None, -1, 1), (1, None, -1)],
            [(1, 2, 1), (3, 3, -1)],
            [(1, 1, 2), (2, 2, -1)],
            [(-BIG, BIG, 1)],
        ]:
            slide = Slide(*pieces)
            with self.assertRaises(NoInverse) as caught:
                slide.inverse()
            self.assertIs(caught.exception.slide, slide)

    def test_random_rearrangements(self):
        chance = random.Random(6)
        for _ in range(200):
            sizes = [chance.randint(1, 4) for _ in range(chance.randint(1, 6))]
            order = chance.sample(range(len(sizes)), len(sizes))
            starts, at = {}, 1
            for block in order:
                starts[block], at = at, at + sizes[block]
            pieces, low = [], 1
            for block, size in enumerate(sizes):
                pieces.append((low, low + size - 1, starts[block] - low))
                low += size
            everywhere = chance.randint(-3, 3)
            slide = Slide(*pieces) + everywhere
            undone = slide.inverse()
            for p in range(-10, 40):
                self.assertEqual(undone(slide(p)), p)
                self.assertEqual(slide(undone(p)), p)
            self.assertEqual(undone.inverse(), slide)

    def test_random_slides_against_looking_at_each_integer(self):
        # Outside of -20 to 20 these slides move all integers alike on each side, so a slide has
        # an inverse just if both sides move alike and what is between is sent onto its place.
        chance = random.Random(7)
        found = {True: 0, False: 0}
        for _ in range(4000):
            slide = Slide(*random_pieces(chance, most=3, reach=3))
            by = slide(50) - 50
            onto = sorted([slide(p) for p in range(-20, 21)]) == list(range(-20 + by, 21 + by))
            there = slide(-50) + 50 == by and onto
            found[there] += 1
            if there:
                undone = slide.inverse()
                self.assertTrue(all([undone(slide(p)) == p for p in range(-30, 31)]))
            else:
                self.assertRaises(NoInverse, slide.inverse)
        self.assertGreater(found[True], 100)


class Size(unittest.TestCase):
    def test_three_hundred_pieces(self):
        pieces = [(4 * at, 4 * at + 1, 2 if at % 2 else 1) for at in range(300)]
        slide = Slide(*pieces)
        self.assertEqual(len(slide), 300)
        both = slide >> slide
        for p in range(-10, 1300):
            self.assertEqual(both(p), slide(slide(p)))
        self.assertEqual(slide.first_fault(1300), plain_fault(slide, 1300))
        swaps = [(2 * at, 2 * at, 1) for at in range(150)] + [(2 * at + 1, 2 * at + 1, -1) for at in range(150)]
        self.assertEqual(len(Slide(*swaps)), 300)
        self.assertEqual(Slide(*swaps).inverse(), Slide(*swaps))
