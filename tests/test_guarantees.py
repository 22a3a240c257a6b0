"""The guarantees of section 3, as far as they speak of films, of what was seen, of truths told and of mix-ups."""

import itertools
import random
import unittest

from tests import brute
from tests.cases import cases, one_dot_otherwise
from tests.test_mixing import cases as mixing_cases
from tests.test_telling import cases as telling_cases
from wiresindark.boards import Board
from wiresindark.explaining import Causes, explained, shows_explained, stair
from wiresindark.films import Film, running, shown
from wiresindark.mixing import mixed, shows_mixed
from wiresindark.pictures import Dead, Picture
from wiresindark.telling import expected, least_dead, surely, told

WORDS = {"row": "column", "column": "row"}


def film_turned(film):
    return Film(tuple(~picture for picture in film.pictures))


def seen_turned(seen):
    return tuple((tick, ~picture) for tick, picture in seen)


def wires_turned(wires):
    return tuple(sorted((WORDS[kind], number) for kind, number in wires))


def dot_turned(pair):
    return pair and (pair[0], pair[1][::-1])


class AllDeadWiresTest(unittest.TestCase):
    """(a): what is told holds for all sets of dead wires of at most k, and only what holds for all of them is told."""

    def test_whatever_is_dead(self):
        generator = random.Random(100)
        for _ in range(150):
            board = brute.any_board(generator, generator.randint(1, 4), generator.randint(1, 4), 0.2)
            films = tuple(brute.any_film(generator, board, generator.randint(1, 3), 0.6) for _ in range(3))
            wires = brute.any_wires(generator, board, 0.25)
            number, looks = generator.randrange(3), brute.any_looks(generator, generator.randint(1, 3), 5)
            begin = generator.randrange(len(films[number]))
            seen = shown(films[number] >> begin, looks, brute.dead_from(board, wires))
            for k in range(len(wires), len(wires) + 3):
                self.assertIn((number, begin), [truth[:2] for truth in told(films, seen, k)])
                dead, alive = surely(films, seen, k)
                self.assertLessEqual(set(dead.wires), set(wires))
                self.assertFalse(set(alive.wires) & set(wires))
                lit, dark = expected(films, seen, k, 7)
                now = films[number][begin + 7] - brute.dead_from(board, wires)
                self.assertTrue(lit.is_within(now))
                self.assertEqual(len(dark & now), 0)

    def test_whatever_dies(self):
        generator = random.Random(101)
        for _ in range(150):
            board = brute.any_board(generator, generator.randint(1, 4), generator.randint(1, 4), 0.2)
            films = tuple(brute.any_film(generator, board, generator.randint(1, 3), 0.6) for _ in range(3))
            number, looks = generator.randrange(3), brute.any_looks(generator, 3, 5)
            deaths = brute.any_deaths(generator, board, 3, 0.25)
            seen = brute.seen_of(films[number], looks, deaths)
            for k in range(len(deaths[-1]), len(deaths[-1]) + 3):
                self.assertIn((number, 0), [truth[:2] for truth in told(films, seen, k, dying=True)])
                dead, alive = surely(films, seen, k, dying=True)
                self.assertLessEqual(set(dead.wires), set(deaths[-1]))
                self.assertFalse(set(alive.wires) & set(deaths[-1]))


class MoreLooksTest(unittest.TestCase):
    """(d): more looks tell no more truths, and mix up no more films; a greater k loses no truth."""

    def test_truths(self):
        generator = random.Random(102)
        for films, seen, k, dying in telling_cases(103, 250):
            tick = generator.choice([tick for tick in range(12) if tick not in dict(seen)])
            picture = generator.choice(seen)[1] & generator.choice(films)[tick]
            more = tuple(sorted(seen + ((tick, picture),), key=lambda pair: pair[0]))
            before = [truth[:2] for truth in told(films, seen, k, dying=dying)]
            for number, begin, _ in told(films, more, k, dying=dying):
                self.assertIn((number, begin), before)
            greater = [truth for truth in told(films, seen, min(k + 1, 20), dying=dying)]
            for truth in told(films, seen, k, dying=dying):
                self.assertIn(truth, greater)

    def test_mix_ups(self):
        generator = random.Random(104)
        for one, other, looks, k in mixing_cases(105, 250):
            tick = generator.choice([tick for tick in range(12) if tick not in looks])
            more = tuple(sorted(looks + (tick,)))
            if mixed(one, other, looks, k)[0] == "apart":
                self.assertEqual(mixed(one, other, more, k)[0], "apart")
                self.assertEqual(mixed(one, other, looks, max(k - 1, 0))[0], "apart")


class TurnedTest(unittest.TestCase):
    """(e): rows and columns exchanged."""

    def test_explanations(self):
        for film, seen, alive, dying in cases(106, 250):
            options = {"alive": wires_turned(alive), "dying": dying}
            result = explained(film, seen, alive=alive, dying=dying)
            other = explained(film_turned(film), seen_turned(seen), **options)
            self.assertEqual(result[0], other[0])
            if result[0] == "stray":
                value = ("stray", *dot_turned(result[1:]))
            elif result[0] == "barred":
                value = ("barred", *dot_turned(result[1:3]), dot_turned(result[4]), dot_turned(result[3]))
            else:
                self.assertEqual(len(result[1]), len(other[1]))
                value = ("explained", ~result[1], tuple(sorted(map(dot_turned, result[2]))))
            self.assertIs(shows_explained(film_turned(film), seen_turned(seen), value, **options), True)

    def test_stairs(self):
        for film, seen, _, _ in cases(107, 200):
            pairs = stair(film_turned(film), seen_turned(seen))
            self.assertEqual(tuple(sorted((columns, rows) for rows, columns in pairs)), stair(film, seen))

    def test_truths(self):
        for films, seen, k, dying in telling_cases(108, 200):
            others, looks = tuple(map(film_turned, films)), seen_turned(seen)
            self.assertEqual(told(others, looks, k, dying=dying), told(films, seen, k, dying=dying))
            self.assertEqual(least_dead(others, looks, dying=dying), least_dead(films, seen, dying=dying))
            pairs = [(surely(others, looks, k, dying=dying), surely(films, seen, k, dying=dying))]
            pairs.append((expected(others, looks, k, 4), expected(films, seen, k, 4)))
            for turned, straight in pairs:
                self.assertEqual(turned, straight and tuple(~thing for thing in straight))

    def test_shown(self):
        generator = random.Random(109)
        for _ in range(50):
            board = brute.any_board(generator, generator.randint(1, 4), generator.randint(1, 4), 0.2)
            film = brute.any_film(generator, board, 3, 0.6)
            dead = brute.dead_from(board, brute.any_wires(generator, board, 0.3))
            self.assertEqual(shown(film_turned(film), (0, 4), ~dead), seen_turned(shown(film, (0, 4), dead)))


class RunningTextsTest(unittest.TestCase):
    """(f): running texts on full boards look alike with dead rows alone, if they do with any."""

    def test_dead_rows_are_enough(self):
        generator = random.Random(110)
        found = 0
        for place in range(160):
            board = Board(("o" * generator.randint(1, 3),) * generator.randint(1, 3))
            many, more = generator.choice(((1, 1), (2, 2), (3, 3), (2, 4), (4, 2), (1, 3), (2, 3), (6, 3), (4, 3)))
            columns = brute.subsets(range(board.height))
            strip = tuple(generator.choice(columns) for _ in range(many))
            second = tuple(generator.choice(columns) for _ in range(more))
            if place % 2:
                second = tuple(tuple(set(strip[at % many]) ^ set(generator.choice(columns))) for at in range(more))
                second = tuple(tuple(sorted(column)) for column in second)
            one, other = running(board, strip), running(board, second) >> generator.randrange(more)
            found += self.check(board, one, other)
        self.assertGreater(found, 100)

    def check(self, board, one, other):
        looks = tuple(range(12))
        rows = [Dead(board, some) for some in brute.subsets(range(board.height))]
        alone = [
            (len(dead), len(match)) for dead, match in itertools.product(rows, rows)
            if shown(one, looks, dead) == shown(other, looks, match)
        ]
        pairs = brute.mix_ups(one, other, looks, 4)
        found = 0
        for dead, match in pairs:
            if any(len(picture) for _, picture in shown(one, looks, dead)):
                found += 1
                self.assertTrue(any(many <= len(dead) and more <= len(match) for many, more in alone))
        for k in range(5):
            expected_word = "mixed" if any(max(len(dead), len(match)) <= k for dead, match in pairs) else "apart"
            result = mixed(one, other, looks, k)
            self.assertEqual(result[0], expected_word)
            self.assertIs(shows_mixed(one, other, looks, k, result), True)
        return found


class JoinedTest(unittest.TestCase):
    """(c): of two explanations with the fewest wires, the rows of either with the columns of both are one, too."""

    def test_joined(self):
        joined = 0
        for film, seen, alive, dying in cases(111, 300):
            least = brute.fewest(film, seen, alive, dying)
            if len(least) < 2:
                continue
            causes = Causes(film, seen, alive=alive, dying=dying)
            for one, other in itertools.product(least, repeat=2):
                self.assertIn(one.over(other), causes)
                self.assertIn(one.under(other), least)
                joined += 1
        self.assertGreater(joined, 200)

    def test_seen_otherwise(self):
        """What explains no longer explains when a dot at one of its wires is seen lit."""
        generator = random.Random(112)
        for film, seen, alive, dying in cases(113, 150):
            result = explained(film, seen, alive=alive, dying=dying)
            if result[0] != "explained" or not result[1].dots:
                continue
            last = seen[-1]
            picture = last[1] | Picture(film.board, (generator.choice(result[1].dots),))
            other = seen[:-1] + ((last[0], picture),)
            self.assertIs(shows_explained(film, other, result, alive=alive, dying=dying), False)
            other = one_dot_otherwise(generator, seen)
            good = brute.is_explained(film, other, result, alive, dying)
            self.assertIs(shows_explained(film, other, result, alive=alive, dying=dying), good)


if __name__ == "__main__":
    unittest.main()
