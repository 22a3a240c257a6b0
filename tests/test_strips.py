"""strips_alike, against all sets of dead rows, and against the films of the texts."""

import itertools
import random
import unittest

from tests import brute, brute_watching
from tests.values import any_values, refused
from wiresindark.boards import Board
from wiresindark.errors import BadNumber, BadStrip, NotFull
from wiresindark.films import running, shown
from wiresindark.pictures import Dead
from wiresindark.strips import strips_alike

LENGTHS = ((1, 1), (2, 2), (3, 3), (2, 4), (4, 2), (1, 3), (2, 3), (3, 2), (6, 3), (4, 3), (5, 4))


def full_board(height, width):
    return Board(("o" * width,) * height)


def case(generator, place):
    """(board, strip, second, k): texts that have much in common."""
    board = full_board(generator.randint(1, 4), generator.randint(1, 3))
    columns = brute.subsets(range(board.height))
    many, more = LENGTHS[place % len(LENGTHS)]
    strip = tuple(generator.choice(columns) for _ in range(many))
    if generator.random() < 0.3:
        return board, strip, tuple(generator.choice(columns) for _ in range(more)), generator.randint(0, 4)
    rows = [row for row in range(board.height) if generator.random() < 0.4]
    turn, second = generator.randrange(more), []
    for at in range(more):
        column = strip[(at - turn) % many]
        second.append(tuple(row for row in range(board.height) if (row in column) != (row in rows and generator.random() < 0.5)))
    return board, strip, tuple(second), generator.choice((0, 1, 1, 2, 2, 3, 4))


def cases(number, many):
    generator = random.Random(number)
    return [case(generator, place) for place in range(many)]


class StripsTest(unittest.TestCase):
    def test_against_all_dead_rows(self):
        found = []
        for board, strip, second, k in cases(230, 500):
            with self.subTest(board=board.rows, strip=strip, second=second, k=k):
                value = strips_alike(board, strip, second, k)
                self.assertIs(value is None, not brute_watching.strips_alike(board, strip, second, k))
                if value is not None:
                    self.assertTrue(brute_watching.shows_strips_alike(board, strip, second, k, value), value)
                    found.append((bool(value[0]), bool(value[1]), bool(value[2])))
                else:
                    found.append(None)
        self.assertGreater(found.count(None), 50)
        for rows, other_rows in itertools.product((True, False), repeat=2):
            self.assertGreater(found.count((rows, other_rows, False)), 5)
        self.assertGreater(sum(value is not None and value[2] for value in found), 20)

    def test_the_films_look_alike(self):
        """What is told holds for the films, and if nothing is told, no dead wires do it."""
        found = [0, 0]
        for board, strip, second, k in cases(231, 250):
            if board.height + board.width > 6:
                continue
            value = strips_alike(board, strip, second, k)
            looks = tuple(range(12))
            one, other = running(board, strip), running(board, second)
            found[value is None] += 1
            if value is not None:
                rows, other_rows, turn = value
                seen = shown(one, looks, Dead(board, rows))
                self.assertEqual(seen, shown(other >> turn, looks, Dead(board, other_rows)))
                self.assertTrue(any(len(picture) for _, picture in seen))
                continue
            for turn in range(len(second)):
                for dead, _ in brute.mix_ups(one, other >> turn, looks, k):
                    self.assertFalse(any(len(picture) for _, picture in shown(one, looks, dead)))
        self.assertGreater(min(found), 40)

    def test_all_short_texts(self):
        board = full_board(2, 1)
        columns = brute.subsets((0, 1))
        strips = [(one,) for one in columns] + list(itertools.product(columns, repeat=2))
        for strip, second in itertools.product(strips, repeat=2):
            for k in (0, 1, 2):
                value = strips_alike(board, strip, second, k)
                if value is None:
                    self.assertEqual(brute_watching.strips_alike(board, strip, second, k), [])
                else:
                    self.assertTrue(brute_watching.shows_strips_alike(board, strip, second, k, value))

    def test_nothing_lit(self):
        board = full_board(3, 2)
        for k in range(5):
            self.assertIsNone(strips_alike(board, ((), ()), ((),), k))
            self.assertIsNone(strips_alike(board, ((0,),), ((),), k))
            # All rows can be dead, but nothing would be lit.
            self.assertIsNone(strips_alike(board, ((0, 1, 2), ()), ((), (), (0, 1, 2)), k))
            self.assertIsNone(strips_alike(board, ((0,),), ((1, 2),), k))

    def test_the_same_text(self):
        board = full_board(3, 5)
        text = ((0, 2), (1,), (), (0, 1))
        for k in range(5):
            self.assertEqual(strips_alike(board, text, text, k)[:2], ((), ()))
            self.assertEqual(strips_alike(board, text, text, 0), ((), (), 0))
            self.assertEqual(strips_alike(board, text, text[1:] + text[:1], 0), ((), (), 3))
            self.assertEqual(strips_alike(board, text, text[3:] + text[:3], 0), ((), (), 1))
            self.assertEqual(strips_alike(board, text * 2, text, 0), ((), (), 0))
            self.assertEqual(strips_alike(board, text, (text * 2)[2:] + text[:2], 0), ((), (), 2))

    def test_as_many_dead_rows_as_there_may_be(self):
        board = full_board(10, 1)
        lit = ((0, 1, 2, 3, 4, 9), (9,))
        for many in range(6):
            less = (tuple(range(many)) + (9,), (9,))
            for k in range(5):
                value = strips_alike(board, less, ((9,),), k)
                self.assertEqual(value, (tuple(range(many)), (), 0) if many <= k else None)
                value = strips_alike(board, ((9,),), less, k)
                self.assertEqual(value, ((), tuple(range(many)), 0) if many <= k else None)
        self.assertIsNone(strips_alike(board, lit, ((9,), (9,)), 4))

    def test_twelve_and_eleven_columns(self):
        board = full_board(2, 10)
        one = ((0,),) + ((),) * 11
        other = ((0,),) + ((),) * 10
        self.assertIsNone(strips_alike(board, one, other, 4))
        one, other = ((0, 1),) + ((1,),) * 11, ((0, 1),) + ((1,),) * 10
        self.assertIsNone(strips_alike(board, one, other, 0))
        for turn in range(11):
            value = strips_alike(board, one, other[turn:] + other[:turn], 1)
            self.assertEqual(value[:2], ((0,), (0,)))

    def test_the_board_comes_first(self):
        for rows in (("oo", "o."), (".o", "o."), ("o" * 10,) * 9 + ("." + "o" * 9,)):
            board = Board(rows)
            for strip, second, k in (((), (), 9), (((0,),), ((0,),), 1), (None, ((0,),), 1), (((0,),), [], True)):
                refused(self, NotFull, board, lambda: strips_alike(board, strip, second, k))

    def test_refused(self):
        board = full_board(2, 3)
        good = ((0,), (0, 1))
        for value in any_values() + [((2,),), ((1, 0),), ((0,),) * 13, ((0, 0),), ((True,),), [(0,)], ([0],), ((0,), None)]:
            if not self.is_strip(value):
                refused(self, BadStrip, value, lambda: strips_alike(board, value, good, 1))
                refused(self, BadStrip, value, lambda: strips_alike(board, good, value, 1))
                refused(self, BadStrip, value, lambda: strips_alike(board, good, value, 9))
                other = ((5,),)
                refused(self, BadStrip, value, lambda: strips_alike(board, value, other, None))
            if type(value) is not int or not 0 <= value <= 4:
                refused(self, BadNumber, value, lambda: strips_alike(board, good, good, value))
        for k in (5, -1, True, False, None, "1", (1,)):
            refused(self, BadNumber, k, lambda: strips_alike(board, good, good, k))
            strip = ()
            refused(self, BadStrip, strip, lambda: strips_alike(board, good, strip, k))
        for k in range(5):
            self.assertIsNotNone(strips_alike(board, ((0,),) * 12, good[:1], k))

    def is_strip(self, value):
        if type(value) is not tuple or not 1 <= len(value) <= 12:
            return False
        return all(type(one) is tuple and all(type(row) is int for row in one) and one in ((), (0,), (1,), (0, 1)) for one in value)

    def test_by_position_and_by_name(self):
        for board, strip, second, k in cases(232, 30):
            value = strips_alike(board, strip, second, k)
            self.assertEqual(strips_alike(k=k, second=second, strip=strip, board=board), value)
            self.assertEqual(strips_alike(Board(board.rows), strip, second, k), value)


if __name__ == "__main__":
    unittest.main()
