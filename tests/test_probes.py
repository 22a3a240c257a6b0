"""probes, against all pairs of Deads."""

import random
import unittest

from tests import brute, brute_watching
from tests.values import any_values, refused
from wiresindark.boards import Board
from wiresindark.errors import BadNumber, BadOffers
from wiresindark.pictures import Dead, Picture
from wiresindark.probes import probes

FORMS = ((1, 1), (1, 2), (2, 1), (2, 2), (1, 4), (2, 3), (3, 2), (3, 3), (2, 4))


def case(generator, form):
    board = brute.any_board(generator, form[0], form[1], generator.choice((0, 0.3, 0.5)))
    many = generator.choice((1, 2, 3, 4, 5, 6, 6))
    share = generator.choice((0.2, 0.4, 0.6, 0.8))
    offers = [brute.any_picture(generator, board, share) for _ in range(many)]
    if generator.random() < 0.3:
        offers[-1] = Picture(board, board.dots) - offers[0]
    return board, tuple(offers), generator.choice((0, 1, 1, 1, 2, 2, 3))


def cases(number, many):
    generator = random.Random(number)
    return [case(generator, FORMS[place % len(FORMS)]) for place in range(many)]


class ProbesTest(unittest.TestCase):
    def check(self, board, offers, k, value):
        """Whether value is right; it is told how many numbers it has."""
        self.assertIs(type(value), tuple)
        numbers = brute_watching.probes(board, offers, k)
        if numbers is not None:
            self.assertEqual(value, ("probes", numbers))
            return len(numbers)
        word, one, other = value
        self.assertEqual(word, "none")
        for dead in (one, other):
            self.assertTrue(type(dead) is Dead and dead.board == board and len(dead.wires) <= k)
        self.assertNotEqual(one.dots, other.dots)
        self.assertFalse(brute_watching.told_apart(offers, one, other))
        return None

    def test_against_all_pairs(self):
        found = []
        for board, offers, k in cases(240, 500):
            with self.subTest(board=board.rows, offers=[picture.rows for picture in offers], k=k):
                found.append(self.check(board, offers, k, probes(board, offers, k)))
        for many in (None, 0, 1, 2, 3):
            self.assertGreater(found.count(many), 5, many)

    def test_all_lit_tells_all_apart(self):
        for rows in (("o",), ("oo", "o."), ("ooo", "ooo", "oo."), ("o" * 10,) * 10, ("o." * 5, ".o" * 5) * 5):
            board = Board(rows)
            lit, dark = Picture(board, board.dots), Picture(board)
            for k in range(4):
                self.assertEqual(probes(board, (lit,), k), ("probes", (0,) if k else ()))
                self.assertEqual(probes(board, (dark, lit, lit), k), ("probes", (1,) if k else ()))

    def test_nothing_is_dead(self):
        board = Board(("oo", "oo"))
        for offers in ((Picture(board),), (Picture(board),) * 6, (Picture(board, board.dots),)):
            self.assertEqual(probes(board, offers, 0), ("probes", ()))
        for k in (1, 2, 3):
            self.assertEqual(self.check(board, (Picture(board),), k, probes(board, (Picture(board),), k)), None)

    def test_deads_that_meet_the_same_dots(self):
        """They need not be told apart."""
        board = Board(("o",))
        self.assertEqual(probes(board, (Picture(board, ((0, 0),)),), 2), ("probes", (0,)))
        board = Board((".o", "o."))
        self.assertEqual(probes(board, (Picture(board, ((0, 1), (1, 0))),), 3), ("probes", (0,)))
        self.assertEqual(probes(board, (Picture(board, ((0, 1),)), Picture(board, ((1, 0),))), 1), ("probes", (0, 1)))
        board = Board(("oo", "oo"))
        self.assertEqual(probes(board, (Picture(board, board.dots),), 3), ("probes", (0,)))

    def test_the_least_of_the_fewest(self):
        board = Board(("ooo",))
        one, two, three = [Picture(board, ((0, number),)) for number in range(3)]
        pair, lit = one | two, Picture(board, board.dots)
        self.assertEqual(probes(board, (one, two, three, pair, lit, lit), 1), ("probes", (4,)))
        self.assertEqual(probes(board, (one, two, three, pair, one, two), 1), ("probes", (2, 3)))
        self.assertEqual(probes(board, (one, three, two, one, three, two), 1), ("probes", (0, 1, 2)))
        self.assertEqual(probes(board, (two, two, one, one, three, three), 1), ("probes", (0, 2, 4)))
        self.assertEqual(probes(board, (pair, one, two, pair, one, two), 1)[0], "none")
        # Two pictures are not more than three, if fewer are not enough.
        self.assertEqual(probes(board, (one, two | three, two, three, one, one), 1), ("probes", (0, 1)))

    def test_more_dead_wires_need_more(self):
        board = Board(("ooo", "ooo"))
        diagonal = Picture(board, ((0, 0), (1, 1)))
        rest = Picture(board, board.dots) - diagonal
        for offers in ((diagonal,), (diagonal, rest), (rest,), (rest, diagonal, rest)):
            for k in range(4):
                self.check(board, offers, k, probes(board, offers, k))

    def test_great_boards(self):
        generator = random.Random(241)
        words = []
        for form in ((10, 10), (10, 9), (1, 10), (10, 2), (8, 8)) * 3:
            board = brute.any_board(generator, form[0], form[1], generator.choice((0, 0.3)))
            share = generator.choice((0.02, 0.1, 0.3, 0.6))
            offers = tuple(brute.any_picture(generator, board, share) for _ in range(6))
            for k in (1, 2, 3):
                value = probes(board, offers, k)
                words.append(value[0])
                if value[0] == "none":
                    self.assertNotEqual(value[1].dots, value[2].dots)
                    self.assertTrue(max(len(value[1]), len(value[2])) <= k)
                    self.assertFalse(brute_watching.told_apart(offers, *value[1:]))
                elif k == 1:
                    self.check(board, offers, k, value)
        self.assertGreater(min(words.count("none"), words.count("probes")), 5)

    def test_refused(self):
        board, other = Board(("oo", "oo")), Board(("oo", "o."))
        dark = Picture(board)
        bad = [(), (dark,) * 7, [dark], dark, (dark, None), (Picture(other),), (dark, Picture(other)), ((dark,),), (Dead(board),)]
        bad += [(dark.dots,), (dark, 0), {0: dark}, (board,), (dark, (0, dark)), (dark.rows,)]
        for value in any_values() + bad:
            refused(self, BadOffers, value, lambda: probes(board, value, 1))
            refused(self, BadOffers, value, lambda: probes(board, value, 4))
            refused(self, BadOffers, value, lambda: probes(board, value, None))
        for k in any_values() + [4, 5, -1]:
            if type(k) is not int or not 0 <= k <= 3:
                refused(self, BadNumber, k, lambda: probes(board, (dark,), k))
        for k in range(4):
            for many in (1, 6):
                self.assertEqual(len(probes(board, (dark,) * many, k)), 2 if k == 0 else 3)

    def test_by_position_and_by_name(self):
        for board, offers, k in cases(242, 30):
            value = probes(board, offers, k)
            self.assertEqual(probes(k=k, offers=offers, board=board), value)
            again = tuple(Picture(Board(board.rows), picture.dots) for picture in offers)
            self.assertEqual(probes(board, again, k), value)
            self.assertEqual(probes(Board(board.rows), offers, k), value)


if __name__ == "__main__":
    unittest.main()
