"""explained and shows_explained, against all sets of dead wires on small boards."""

import itertools
import random
import unittest

from tests import brute
from tests.cases import all_small_cases, cases, one_dot_otherwise
from tests.values import any_values
from wiresindark.boards import Board
from wiresindark.explaining import explained, shows_explained
from wiresindark.films import Film, shown
from wiresindark.pictures import Dead, Picture, drawn


def wrong_forms(result):
    """result, with one thing otherwise that makes another kind of value of it."""
    found = [list(result), result + (0,), result[:-1], (result,), result[1:], {0: result}, (0,) + result[1:]]
    found += [(word,) + result[1:] for word in ("stray", "barred", "explained", "mixed", "", None) if word != result[0]]
    for place, part in enumerate(result):
        for other in unlike(part):
            found.append(result[:place] + (other,) + result[place + 1:])
    return found


def unlike(part):
    """Values of other kinds that are equal, or look alike."""
    if isinstance(part, tuple):
        found = [list(part)]
        for place, inner in enumerate(part):
            found += [part[:place] + (other,) + part[place + 1:] for other in unlike(inner)]
        return found
    if isinstance(part, int):
        return ([bool(part)] if part in (0, 1) else []) + [str(part), (part,), None]
    if isinstance(part, Dead):
        return [part.wires, part.dots, (part.rows, part.columns), None, Picture(part.board, part.dots)]
    return []


class ExplainedTest(unittest.TestCase):
    def check(self, film, seen, alive, dying):
        result = explained(film, seen, alive=alive, dying=dying)
        self.assertIs(type(result), tuple)
        self.assertTrue(shows_explained(film, seen, result, alive=alive, dying=dying))
        self.assertTrue(brute.is_explained(film, seen, result, alive, dying))
        strays = brute.strays(film, seen)
        if strays:
            self.assertEqual(result, ("stray", *strays[0]))
        elif brute.barred(film, seen, alive, dying):
            self.assertEqual(result[0], "barred")
        else:
            self.assertEqual(result[0], "explained")
            self.assertEqual(result[1].board, film.board)
            self.assertEqual(len(result[1]), min(map(len, brute.explaining(film, seen, alive, dying))))
        return result[0]

    def test_against_the_words(self):
        words = []
        for film, seen, alive, dying in cases(10, 600):
            with self.subTest(film=film.pictures, seen=seen, alive=alive, dying=dying):
                words.append(self.check(film, seen, alive, dying))
        self.assertGreater(min(words.count(word) for word in ("stray", "barred", "explained")), 60)

    def test_all_of_one_picture(self):
        for film, seen in all_small_cases():
            with self.subTest(film=film[0].rows, seen=seen[0][1].rows):
                self.check(film, seen, (), False)
                self.check(film, seen, (), True)
                self.check(film, seen, film.board.wires[::2], False)

    def test_first_stray_dot(self):
        board = Board(("ooo", "ooo"))
        dark, all_lit = Picture(board), Picture(board, board.dots)
        film = Film((all_lit, dark))
        some = Picture(board, ((0, 2), (1, 0)))
        self.assertEqual(explained(film, ((0, some), (3, some), (5, all_lit))), ("stray", 3, (0, 2)))
        self.assertEqual(explained(film, ((0, some), (5, all_lit), (7, some))), ("stray", 5, (0, 0)))
        # Ahead of barred dots, even at an earlier look.
        self.assertEqual(explained(film, ((0, dark), (3, some)), alive=board.wires), ("stray", 3, (0, 2)))

    def test_nothing_missing(self):
        for rows in (("o",), ("oo", "o."), ("o" * 10,) * 10):
            board = Board(rows)
            for lit in (board.dots, board.dots[::3], ()):
                picture = Picture(board, lit)
                for options in ({}, {"dying": True}, {"alive": board.wires}):
                    result = explained(Film((picture,)), ((0, picture),), **options)
                    self.assertEqual(result, ("explained", Dead(board), ()))

    def test_everything_dark(self):
        for rows in (("o",), ("oo", "oo"), ("ooo", "ooo"), ("o" * 10,) * 10, ("o" * 10,), ("oo.", ".oo")):
            board = Board(rows)
            dark = Picture(board)
            for film in (Film((Picture(board, board.dots),)), Film((dark, Picture(board, board.dots)))):
                result = explained(film, tuple((tick, dark) for tick in range(12)))
                self.assertEqual(len(result[1]), min(board.height, board.width))
                self.assertEqual(result[1].dots, board.dots)
                self.assertEqual(len(result[2]), min(board.height, board.width))

    def test_both_proofs_hold(self):
        board = Board(("oo", "oo"))
        film = Film((Picture(board, board.dots),))
        seen = ((0, Picture(board, ((0, 1), (1, 0)))),)
        options = {"alive": (("column", 0), ("row", 0))}
        for one, other in itertools.product(((), (0, (0, 1))), ((), (0, (1, 0)))):
            self.assertIs(shows_explained(film, seen, ("barred", 0, (0, 0), one, other), **options), True)
            good = one != () and other != ()
            self.assertIs(shows_explained(film, seen, ("barred", 0, (0, 0), one, other)), good)

    def test_only_later_looks_tell_while_wires_die(self):
        board = Board(("oo",))
        film = Film((Picture(board, board.dots),))
        lit, dark = Picture(board, board.dots), Picture(board)
        self.assertEqual(explained(film, ((0, lit), (1, dark)))[0], "barred")
        self.assertEqual(explained(film, ((0, lit), (1, dark)), dying=True)[:2], ("explained", Dead(board, (0,))))
        self.assertEqual(explained(film, ((0, dark), (1, lit)), dying=True)[:3], ("barred", 0, (0, 0)))
        # At the very look counts, too.
        half = Picture(board, ((0, 0),))
        self.assertEqual(explained(film, ((0, lit), (1, half)), dying=True)[1].wires, (("column", 1),))

    def test_only_true_itself_means_dying(self):
        board = Board(("oo",))
        film = Film((Picture(board, board.dots),))
        seen = ((0, Picture(board, board.dots)), (1, Picture(board)))
        self.assertEqual(explained(film, seen, dying=True)[0], "explained")
        for value in any_values():
            if value is True:
                continue
            with self.subTest(value=value):
                result = explained(film, seen, dying=value)
                self.assertEqual(result[0], "barred")
                self.assertIs(shows_explained(film, seen, result, dying=value), True)
                self.assertIs(shows_explained(film, seen, result, dying=True), False)

    def test_words_about_shown(self):
        """If dying is not True, and alive is (), a Dead explains exactly if what it shows is seen."""
        generator = random.Random(11)
        for film, seen, _, _ in cases(12, 120):
            if generator.random() < 0.5:
                deads = brute.all_deads(film.board)
                seen = shown(film, tuple(tick for tick, _ in seen), generator.choice(deads))
            looks = tuple(tick for tick, _ in seen)
            found = [dead for dead in brute.all_deads(film.board) if shown(film, looks, dead) == seen]
            result = explained(film, seen)
            self.assertEqual(result[0] == "explained", bool(found))
            if found:
                self.assertEqual(len(result[1]), min(map(len, found)))
                self.assertIn(result[1], found)

    def test_words_about_dying(self):
        """Wires die in some order: what explains is what is dead at the last look of such a history."""
        for film, seen, _, _ in cases(13, 150):
            board = film.board
            if len(board.wires) > 5:
                continue
            looks = [tick for tick, _ in seen]
            found = []
            for wires in brute.subsets(board.wires):
                for births in itertools.product(range(len(looks)), repeat=len(wires)):
                    at = [[w for w, birth in zip(wires, births) if birth <= place] for place in range(len(looks))]
                    if brute.seen_of(film, looks, at) == seen:
                        found.append(brute.dead_from(board, wires))
                        break
            result = explained(film, seen, dying=True)
            self.assertEqual(result[0] == "explained", bool(found))
            if found:
                self.assertEqual(len(result[1]), min(map(len, found)))
                self.assertIn(result[1], found)

    def test_far_ticks(self):
        board = Board(("oo", "oo"))
        pictures = [Picture(board, (dot,)) for dot in board.dots]
        film = Film(tuple(pictures[:3]))
        seen = ((999999998, pictures[2]), (999999999, Picture(board)), (1000000001 - 1, pictures[1]))
        result = explained(film, seen)
        self.assertEqual(result[0], "barred")
        self.assertEqual(result[1:3], (999999999, (0, 0)))
        self.assertTrue(shows_explained(film, seen, result))

    def test_by_position_and_by_name(self):
        for film, seen, alive, dying in cases(14, 30):
            result = explained(film, seen, alive=alive, dying=dying)
            self.assertEqual(explained(dying=dying, alive=alive, seen=seen, film=film), result)
            self.assertIs(shows_explained(dying=dying, alive=alive, value=result, seen=seen, film=film), True)
            self.assertRaises(TypeError, explained, film, seen, alive)
            self.assertRaises(TypeError, explained, film, seen, alive, dying)
            self.assertRaises(TypeError, shows_explained, film, seen, result, alive)

    def test_equal_boards_made_anew(self):
        for film, seen, alive, dying in cases(15, 60):
            again = tuple((tick, Picture(Board(film.board.rows), picture.dots)) for tick, picture in seen)
            result = explained(film, seen, alive=alive, dying=dying)
            self.assertEqual(explained(film, again, alive=tuple(list(alive)), dying=dying), result)
            if result[0] == "explained":
                dead = Dead(Board(film.board.rows), result[1].rows, result[1].columns)
                value = ("explained", dead, result[2])
                self.assertIs(shows_explained(film, again, value, alive=alive, dying=dying), True)


class ShowsExplainedTest(unittest.TestCase):
    def candidates(self, film, seen):
        """All values that explained may return for any film that is seen so."""
        board = film.board
        pairs = [(tick, dot) for tick, _ in seen for dot in board.dots]
        found = [("stray", tick, dot) for tick, dot in pairs]
        some = [()] + pairs
        found += [("barred", tick, dot, one, other) for tick, dot in pairs for one in some for other in some]
        missing = [(seen[place][0], dot) for place, dot in brute.missing(film, seen)]
        aparts = brute.subsets(missing[:7], 3) + [tuple(missing[:size]) for size in (4, 5)]
        deads = brute.all_deads(board)
        found += [("explained", dead, apart) for dead in deads for apart in aparts]
        return found

    def test_against_the_words(self):
        accepted = 0
        for film, seen, alive, dying in cases(20, 320):
            if len(film.board) > 6 or len(seen) > 3:
                continue
            strays, barred = brute.strays(film, seen), brute.barred_results(film, seen, alive, dying)
            least = brute.fewest(film, seen, alive, dying)
            with self.subTest(film=film.pictures, seen=seen, alive=alive, dying=dying):
                for value in self.candidates(film, seen):
                    if strays:
                        good = value[0] == "stray" and value[1:] in strays
                    elif barred:
                        good = value in barred
                    else:
                        good = value[0] == "explained" and value[1] in least and len(value[2]) == len(value[1])
                        good = good and brute.are_apart(film, seen, value[2], alive, dying)
                    self.assertIs(shows_explained(film, seen, value, alive=alive, dying=dying), good, value)
                    accepted += good
        self.assertGreater(accepted, 400)

    def test_any_stray_dot_of_any_look(self):
        board = Board(("oo", "oo"))
        all_lit = Picture(board, board.dots)
        film = Film((Picture(board, ((0, 0),)), Picture(board)))
        seen = ((2, all_lit), (3, all_lit), (7, Picture(board, ((1, 1),))))
        for tick, dot in itertools.product((1, 2, 3, 7), board.dots):
            good = (tick == 2 and dot != (0, 0)) or tick == 3 or (tick == 7 and dot == (1, 1))
            self.assertIs(shows_explained(film, seen, ("stray", tick, dot)), good)

    def test_one_thing_otherwise(self):
        for film, seen, alive, dying in cases(21, 150):
            result = explained(film, seen, alive=alive, dying=dying)
            with self.subTest(film=film.pictures, seen=seen, alive=alive, dying=dying):
                for value in wrong_forms(result):
                    self.assertIs(shows_explained(film, seen, value, alive=alive, dying=dying), False, value)

    def test_other_orders(self):
        tried = 0
        for film, seen, alive, dying in cases(22, 150):
            result = explained(film, seen, alive=alive, dying=dying)
            if result[0] != "explained" or len(result[2]) < 2:
                continue
            tried += 1
            first, *others = result[2]
            for apart in ((*others, first), result[2][::-1], result[2] + (first,), (first,) + result[2], tuple(others)):
                value = ("explained", result[1], apart)
                self.assertIs(shows_explained(film, seen, value, alive=alive, dying=dying), False)
        self.assertGreater(tried, 20)

    def test_dead_of_another_board(self):
        board, other = Board(("oo",)), Board(("oo", "oo"))
        film, seen = Film((Picture(board, board.dots),)), ((0, Picture(board)),)
        self.assertIs(shows_explained(film, seen, ("explained", Dead(board, (0,)), ((0, (0, 1)),))), True)
        self.assertIs(shows_explained(film, seen, ("explained", Dead(other, (0,)), ((0, (0, 1)),))), False)
        self.assertIs(shows_explained(film, seen, ("explained", Dead(~other, (0,)), ((0, (0, 1)),))), False)

    def test_any_value(self):
        for board in (Board(("oo", "o.")), Board(("oo", "oo"))):
            dark, all_lit = Picture(board), Picture(board, board.dots)
            for picture, sight in ((all_lit, dark), (dark, all_lit), (all_lit, Picture(board, ((0, 1), (1, 0))))):
                film, seen = Film((picture,)), ((0, sight),)
                for value in any_values():
                    for made in (value, ("stray", value, value), ("stray", 0, value), ("stray", value, (0, 0)),
                                 ("barred", value, value, value, value), ("barred", 0, (0, 0), value, value),
                                 ("barred", 0, (0, 0), (0, (0, 1)), value), ("explained", value, value),
                                 ("explained", Dead(board, (0, 1)), value), ("explained", value, ((0, (0, 1)), (0, (1, 0)))),
                                 (value, 0, (0, 0)), (value,), (value, value, value, value, value)):
                        good = made == ("stray", 0, (0, 0)) and sight == all_lit and made[1] is not False
                        good = good and made[2][0] is not False
                        self.assertIs(shows_explained(film, seen, made), good, made)

    def test_nothing_is_changed(self):
        for film, seen, alive, dying in cases(23, 40):
            before = (dict(vars(film)), [dict(vars(picture)) for _, picture in seen])
            first = explained(film, seen, alive=alive, dying=dying)
            self.assertEqual(explained(film, seen, alive=alive, dying=dying), first)
            self.assertIs(shows_explained(film, seen, first, alive=alive, dying=dying), True)
            self.assertEqual((vars(film), [vars(picture) for _, picture in seen]), before)

    def test_of_other_looks(self):
        generator = random.Random(24)
        for film, seen, alive, dying in cases(25, 200):
            result = explained(film, seen, alive=alive, dying=dying)
            other = one_dot_otherwise(generator, seen)
            good = brute.is_explained(film, other, result, alive, dying)
            self.assertIs(shows_explained(film, other, result, alive=alive, dying=dying), good)

    def test_example_with_proofs(self):
        board = Board(("ooo", "ooo", "oo."))
        film = Film((drawn(board, ("#oo", "#oo", "#o.")), drawn(board, ("o#o", "o#o", "o#.")), drawn(board, ("oo#", "oo#", "oo."))))
        seen = shown(film, (0, 1), Dead(board, (1,), (1,)))
        options = {"alive": (("row", 1),)}
        for proof in ((), (0, (0, 0)), (0, (2, 0)), (0, (1, 0)), (1, (0, 0))):
            good = proof in ((0, (0, 0)), (0, (2, 0)))
            self.assertIs(shows_explained(film, seen, ("barred", 0, (1, 0), (), proof), **options), good)


if __name__ == "__main__":
    unittest.main()
