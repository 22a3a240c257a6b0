"""Great boards: what is returned there can be checked, and shows_ refuses it with one thing otherwise."""

import itertools
import random
import unittest

from tests import brute
from tests.cases import one_dot_otherwise
from tests.test_explained import wrong_forms
from tests.test_mixing import changed_nodes, coupled, nodes, with_node
from wiresindark.boards import Board
from wiresindark.explaining import Causes, explained, shows_explained, stair
from wiresindark.films import Film, running
from wiresindark.mixing import mixed, shows_mixed
from wiresindark.pictures import Dead, Picture
from wiresindark.telling import expected, least_dead, surely, told

FORMS = ((10, 10), (10, 7), (6, 10), (10, 1), (1, 10), (9, 9), (8, 10))


def case(generator, form):
    board = brute.any_board(generator, form[0], form[1], generator.choice((0, 0, 0.2, 0.4)))
    film = brute.any_film(generator, board, generator.randint(1, 12), generator.choice((0.2, 0.5, 0.9)))
    many = generator.choice((1, 2, 5, 12))
    looks = brute.any_looks(generator, many, 999999999)
    dying = generator.random() < 0.5
    share = generator.choice((0.1, 0.3, 0.5, 0.8))
    deaths = brute.any_deaths(generator, board, many, share) if dying else [brute.any_wires(generator, board, share)] * many
    seen = brute.seen_of(film, looks, deaths)
    alive = ()
    if generator.random() < 0.3:
        alive = tuple(wire for wire in board.wires if wire not in deaths[-1] and generator.random() < 0.3)
    return film, seen, alive, dying, brute.dead_from(board, deaths[-1])


def cases(number, many):
    generator = random.Random(number)
    return [case(generator, FORMS[place % len(FORMS)]) for place in range(many)]


def one_wire_otherwise(dead):
    """Deads with a wire more or less."""
    board = dead.board
    for number in range(board.height):
        yield dead ^ Dead(board, (number,))
    for number in range(board.width):
        yield dead ^ Dead(board, (), (number,))


class ExplainingTest(unittest.TestCase):
    def check_papers(self, film, seen, result, alive, dying):
        """Both papers: the Dead explains, and no fewer wires do, since so many dots are apart."""
        word, dead, apart = result
        self.assertEqual(word, "explained")
        self.assertTrue(brute.explains(film, seen, dead, alive, dying))
        self.assertEqual(len(apart), len(dead))
        self.assertTrue(brute.are_apart(film, seen, apart, alive, dying))

    def test_both_papers(self):
        for film, seen, alive, dying, dead in cases(70, 250):
            result = explained(film, seen, alive=alive, dying=dying)
            with self.subTest(film.board.rows, dead=dead.wires):
                self.check_papers(film, seen, result, alive, dying)
                self.assertLessEqual(len(result[1]), len(dead))
                self.assertIs(shows_explained(film, seen, result, alive=alive, dying=dying), True)

    def test_one_wire_otherwise(self):
        for film, seen, alive, dying, _ in cases(71, 40):
            _, dead, apart = explained(film, seen, alive=alive, dying=dying)
            for other in one_wire_otherwise(dead):
                value = ("explained", other, apart)
                self.assertIs(shows_explained(film, seen, value, alive=alive, dying=dying), False)

    def test_one_dot_apart_otherwise(self):
        for film, seen, alive, dying, _ in cases(72, 60):
            _, dead, apart = explained(film, seen, alive=alive, dying=dying)
            others = [apart[:at] + apart[at + 1:] for at in range(len(apart))]
            others += [apart + apart[-1:], apart[:1] + apart] if apart else []
            others += [apart[::-1]] if len(apart) > 1 else []
            others += [list(apart), dict.fromkeys(apart)]
            for other in others:
                self.assertIs(shows_explained(film, seen, ("explained", dead, other), alive=alive, dying=dying), False)
            for at, (tick, dot) in enumerate(apart):
                for changed in ((tick + 1, dot), (tick, (dot[1], dot[0] + 1)), (tick, list(dot)), [tick, dot], (tick, dot, 0)):
                    other = apart[:at] + (changed,) + apart[at + 1:]
                    good = type(changed) is tuple and len(changed) == 2 and type(changed[1]) is tuple
                    good = good and brute.are_apart(film, seen, other, alive, dying)
                    value = ("explained", dead, other)
                    self.assertIs(shows_explained(film, seen, value, alive=alive, dying=dying), good)

    def test_other_forms(self):
        for film, seen, alive, dying, _ in cases(73, 40):
            for value in wrong_forms(explained(film, seen, alive=alive, dying=dying)):
                self.assertIs(shows_explained(film, seen, value, alive=alive, dying=dying), False)

    def test_stray_and_barred(self):
        generator = random.Random(74)
        words = []
        for film, seen, alive, dying, _ in cases(75, 200):
            seen = one_dot_otherwise(generator, seen)
            result = explained(film, seen, alive=alive, dying=dying)
            words.append(result[0])
            self.assertIs(shows_explained(film, seen, result, alive=alive, dying=dying), True)
            strays = brute.strays(film, seen)
            if strays:
                self.assertEqual(result[1:], strays[0])
                for tick, dot in strays:
                    self.assertIs(shows_explained(film, seen, ("stray", tick, dot), alive=alive, dying=dying), True)
            elif result[0] == "barred":
                self.check_barred(film, seen, result, alive, dying)
            else:
                self.check_papers(film, seen, result, alive, dying)
        self.assertGreater(min(words.count(word) for word in ("stray", "barred", "explained")), 10)

    def check_barred(self, film, seen, result, alive, dying):
        places = {tick: place for place, (tick, _) in enumerate(seen)}
        self.assertIn((places[result[1]], result[2]), brute.barred(film, seen, alive, dying))
        for place, dot in brute.barred(film, seen, alive, dying)[:4]:
            rows, columns = [brute.proofs(seen, wire, place, alive, dying) for wire in brute.wires_of(dot)]
            self.assertTrue(seen[place][0] != result[1] or dot != result[2] or result[3] in rows and result[4] in columns)
            for one, other in itertools.product(rows[:3] + columns[:2], columns[-3:] + rows[-2:]):
                value = ("barred", seen[place][0], dot, one, other)
                good = one in rows and other in columns
                self.assertIs(shows_explained(film, seen, value, alive=alive, dying=dying), good)

    def test_causes(self):
        for film, seen, alive, dying, _ in cases(76, 80):
            causes = Causes(film, seen, alive=alive, dying=dying)
            apart = explained(film, seen, alive=alive, dying=dying)[2]
            found = [causes[number] for number in range(len(causes))]
            self.assertEqual(found, sorted(found, key=lambda dead: (dead.rows, dead.columns)))
            self.assertEqual(len({dead.wires for dead in found}), len(found))
            for dead in found[:5] + found[-5:] + [causes.first, causes.last]:
                self.assertIs(shows_explained(film, seen, ("explained", dead, apart), alive=alive, dying=dying), True)
                self.assertEqual(len(dead), causes.number)
                self.assertTrue(causes.always.is_within(dead))
                self.assertEqual(len(causes.never & dead), 0)
                self.assertIs(dead in causes, True)
                for other in one_wire_otherwise(dead):
                    self.assertIs(other in causes, False)
            for one, other in itertools.product(found[:4], found[-4:]):
                self.assertIs(one.over(other) in causes and one.under(other) in causes, True)
            self.assertEqual(causes.arrows, brute.arrows(found, causes.blocks) if len(found) < 100 else causes.arrows)
            self.assertEqual(causes.blocks, brute.blocks(found, film.board) if len(found) < 100 else causes.blocks)

    def test_all_fewest_are_there(self):
        """Deads that are made from one of the causes by exchanging wires are causes, if they explain."""
        generator = random.Random(77)
        for film, seen, alive, dying, _ in cases(78, 40):
            causes = Causes(film, seen, alive=alive, dying=dying)
            for _ in range(20):
                dead = causes[generator.randrange(len(causes))]
                out = generator.sample(dead.wires, min(len(dead), 2))
                new = [wire for wire in dead.wires if wire not in out] + generator.sample(film.board.wires, len(out))
                other = brute.dead_from(film.board, set(new))
                good = len(other) == causes.number and brute.explains(film, seen, other, alive, dying)
                self.assertIs(other in causes, good)

    def test_stair(self):
        for film, seen, _, dying, dead in cases(79, 80):
            if dying:
                continue
            pairs = stair(film, seen)
            number = len(explained(film, seen)[1])
            self.assertEqual(min(rows + columns for rows, columns in pairs), number)
            self.assertEqual(list(pairs), sorted(pairs))
            self.assertEqual([columns for _, columns in pairs], sorted({columns for _, columns in pairs}, reverse=True))
            self.assertTrue(any(rows <= len(dead.rows) and columns <= len(dead.columns) for rows, columns in pairs))
            causes = Causes(film, seen)
            self.assertTrue(any(rows <= len(causes.first.rows) and columns <= len(causes.first.columns)
                                for rows, columns in pairs))


class TellingTest(unittest.TestCase):
    def cases(self, number, many):
        generator = random.Random(number)
        for film, seen, _, dying, dead in cases(number, many):
            board = film.board
            others = [film >> 1] if len(film) <= 6 else []
            strip = tuple(tuple(row for row in range(board.height) if generator.random() < 0.4) for _ in range(5))
            yield (*others, running(board, strip), film), seen, dying, dead

    def test_told(self):
        for films, seen, dying, dead in self.cases(80, 60):
            truths = told(films, seen, 20, dying=dying)
            found = []
            for number, begin in brute.truths(films):
                result = explained(films[number] >> begin, seen, dying=dying)
                if result[0] == "explained":
                    found.append((number, begin, len(result[1])))
            self.assertEqual(truths, tuple(found))
            self.assertIn((len(films) - 1, 0), [truth[:2] for truth in truths])
            self.assertEqual(least_dead(films, seen, dying=dying), min(fewest for _, _, fewest in truths))
            for k in (0, 1, 2, 3, 5, 8, 19):
                self.assertEqual(told(films, seen, k, dying=dying), tuple(truth for truth in truths if truth[2] <= k))

    def test_surely(self):
        """A wire is surely dead if nothing explains without it, surely alive if nothing with it does."""
        for films, seen, dying, _ in self.cases(81, 28):
            least = least_dead(films, seen, dying=dying)
            for k in (least, least + 1, least + 2):
                dead, alive = surely(films, seen, k, dying=dying)
                for wire in films[0].board.wires:
                    without = self.fewest_without(films, seen, wire, dying)
                    self.assertIs(wire in dead, without is None or without > k)
                    self.assertIs(wire in alive, not self.can_be_dead(films, seen, wire, k, dying))

    def begun(self, films):
        return [films[number] >> begin for number, begin in brute.truths(films)]

    def fewest_without(self, films, seen, wire, dying):
        found = [explained(film, seen, alive=(wire,), dying=dying) for film in self.begun(films)]
        return min([len(result[1]) for result in found if result[0] == "explained"], default=None)

    def can_be_dead(self, films, seen, wire, k, dying):
        if not brute.may_be_dead(seen, wire, len(seen) - 1, (), dying):
            return False
        for film in self.begun(films):
            result = explained(film, seen, dying=dying)
            if result[0] == "explained":
                spare = k - len(result[1])
                causes = Causes(film, seen, dying=dying)
                if spare > 0 or spare == 0 and wire not in causes.never:
                    return True
        return False

    def test_expected(self):
        for films, seen, dying, dead in self.cases(82, 40):
            if dying:
                continue
            least = least_dead(films, seen)
            for k in (least, least + 1, 20):
                for tick in (0, seen[0][0], 999999999):
                    lit, dark = expected(films, seen, k, tick)
                    self.assertEqual(len(lit & dark), 0)
                    if len(dead) <= k:
                        now = films[-1][tick] - dead
                        self.assertTrue(lit.is_within(now))
                        self.assertEqual(len(now & dark), 0)
            self.assertEqual(expected(films, seen, least, seen[0][0])[0], seen[0][1])


class MixingTest(unittest.TestCase):
    def cases(self, number, many):
        generator = random.Random(number)
        found = []
        for place in range(many):
            height, width = FORMS[place % len(FORMS)]
            board = brute.any_board(generator, height, width, generator.choice((0, 0.2, 0.5)))
            one, other, looks, k = coupled(generator, board)
            if place % 3 == 0:
                dead = brute.dead_from(board, generator.sample(board.wires, min(3, len(board.wires))))
                change = brute.any_picture(generator, board, 0.5) & Picture(board, dead.dots)
                other = Film(tuple((picture - dead) | change for picture in one.pictures))
                k = generator.randint(0, 4)
            found.append((one, other, looks, k))
        return found

    def test_tree_or_deads(self):
        words, deepest = [], 0
        for one, other, looks, k in self.cases(90, 400):
            result = mixed(one, other, looks, k)
            words.append(result[0])
            self.assertIs(shows_mixed(one, other, looks, k, result), True)
            if result[0] == "mixed":
                _, first, second = result
                self.assertLessEqual(max(len(first), len(second)), k)
                self.assertTrue(brute.look_alike(one, other, looks, first.wires, second.wires))
            else:
                self.assertTrue(brute.closes((one, other), looks, k, result[1]))
                deepest = max(deepest, len(nodes(result[1])))
        self.assertGreater(min(words.count("mixed"), words.count("apart")), 50)
        self.assertGreater(deepest, 5)

    def test_one_thing_otherwise(self):
        for one, other, looks, k in self.cases(91, 120):
            result = mixed(one, other, looks, k)
            for value in wrong_forms(result):
                self.assertIs(shows_mixed(one, other, looks, k, value), False)
            if result[0] == "mixed":
                self.check_changed_deads(one, other, looks, k, result)
            else:
                self.check_changed_trees(one, other, looks, k, result[1])

    def check_changed_deads(self, one, other, looks, k, result):
        _, first, second = result
        pairs = [(dead, second) for dead in one_wire_otherwise(first)] + [(first, dead) for dead in one_wire_otherwise(second)]
        for dead, match in pairs + [(second, first)]:
            good = max(len(dead), len(match)) <= k and brute.look_alike(one, other, looks, dead.wires, match.wires)
            self.assertIs(shows_mixed(one, other, looks, k, ("mixed", dead, match)), good)
        self.assertIs(shows_mixed(one, other, looks, k, ("apart", ("more", 0, ()))), False)

    def check_changed_trees(self, one, other, looks, k, tree):
        for path, node in nodes(tree)[:10]:
            for changed in changed_nodes(one.board, node)[:30]:
                value = with_node(tree, path, changed)
                good = brute.closes((one, other), looks, k, value)
                self.assertIs(shows_mixed(one, other, looks, k, ("apart", value)), good)

    def test_as_many_dead_as_there_can_be(self):
        board = Board(("o" * 10,) * 10)
        dark = Film((Picture(board),))
        for many in range(1, 11):
            diagonal = Film((Picture(board, tuple((at, at) for at in range(many))),))
            for k in range(5):
                result = mixed(diagonal, dark, (0,), k)
                self.assertEqual(result[0], "mixed" if many <= k else "apart")
                self.assertIs(shows_mixed(diagonal, dark, (0,), k, result), True)
                back = mixed(dark, diagonal, (0,), k)
                self.assertEqual(back[0], result[0])
                self.assertIs(shows_mixed(dark, diagonal, (0,), k, back), True)


if __name__ == "__main__":
    unittest.main()
