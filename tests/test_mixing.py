"""mixed and shows_mixed, against all pairs of sets of dead wires on small boards."""

import itertools
import random
import unittest

from tests import brute
from tests.test_explained import wrong_forms
from tests.values import any_values
from wiresindark.boards import Board
from wiresindark.films import Film, running, shown
from wiresindark.mixing import mixed, shows_mixed
from wiresindark.pictures import Dead, Picture

FORMS = ((1, 1), (1, 3), (2, 2), (2, 3), (3, 2), (3, 3), (3, 3), (4, 3), (4, 4))


def lit_at(generator, kind, ticks):
    """At which of the ticks a dot of this kind is lit by the one film and by the other one."""
    some = generator.sample(ticks, generator.randint(1, len(ticks)))
    rest = [tick for tick in ticks if tick not in some] or [None]
    return {"one": (some, []), "other": ([], some), "unlike": (some, rest), "alike": (some, some), "none": ([], [])}[kind]


def some_apart(generator, dots, many):
    """Up to so many of the dots, no two of which share a wire."""
    found = []
    for dot in generator.sample(dots, len(dots)):
        if len(found) < many and not any(set(brute.wires_of(dot)) & set(brute.wires_of(other)) for other in found):
            found.append(dot)
    return found


def coupled(generator, board):
    """Two films most of whose dots are lit by both at the same ticks, so that wires of one side ask for others.

    On each side just k wires have to be dead anyway, if there is room: what is met by them decides.
    """
    ticks = list(range(generator.randint(1, 3)))
    k = generator.choice((1, 1, 2, 3, 4))
    share = generator.choice((0.5, 0.7, 0.9))
    kinds = {dot: "alike" if generator.random() < share else "none" for dot in board.dots}
    here = some_apart(generator, list(board.dots), k)
    rest = [dot for dot in board.dots if dot not in here]
    there = some_apart(generator, rest, k)
    kinds.update([(dot, "one") for dot in here] + [(dot, "other") for dot in there])
    if generator.random() < 0.3:
        kinds[generator.choice(board.dots)] = "unlike"
    lit = {dot: lit_at(generator, kinds[dot], ticks) for dot in board.dots}
    films = []
    for side in (0, 1):
        dots = [tuple(dot for dot in board.dots if tick in lit[dot][side]) for tick in ticks]
        films.append(Film(tuple(Picture(board, some) for some in dots)))
    return films[0], films[1], tuple(ticks), k


def case(generator, form):
    """(one, other, looks, k): films that have much in common, so that some can be mixed up."""
    board = brute.any_board(generator, form[0], form[1], generator.choice((0, 0, 0.3)))
    if generator.random() < 0.6:
        return coupled(generator, board)
    one = brute.any_film(generator, board, generator.randint(1, 4), generator.choice((0.3, 0.5, 0.8)))
    share = generator.choice((0, 0.1, 0.3, 1))
    changes = [brute.any_picture(generator, board, share) for _ in one.pictures]
    other = Film(tuple(picture ^ change for picture, change in zip(one.pictures, changes)))
    if generator.random() < 0.3:
        wires = brute.dead_from(board, brute.any_wires(generator, board, 0.3))
        other = Film(tuple((picture - wires) | (change & Picture(board, wires.dots))
                           for picture, change in zip(one.pictures, changes)))
    if generator.random() < 0.2:
        other = other >> 1
    looks = brute.any_looks(generator, generator.randint(1, 4), 9)
    return one, other, looks, generator.randint(0, 4)


def cases(number, many):
    generator = random.Random(number)
    return [case(generator, FORMS[place % len(FORMS)]) for place in range(many)]


def nodes(tree):
    """All (path, tree) in a tree, the path to each telling which branches lead there."""
    found = [((), tree)]
    if tree[0] == "split":
        for branch in (3, 4):
            found += [((branch,) + path, below) for path, below in nodes(tree[branch])]
    return found


def with_node(tree, path, node):
    if not path:
        return node
    branch, *others = path
    return tree[:branch] + (with_node(tree[branch], others, node),) + tree[branch + 1:]


def changed_nodes(board, node):
    """Values that a node can be changed to, of the right form, right or wrong."""
    found = [("more", 0, ()), ("more", 1, ()), ("more", 0, board.dots[:1]), ("more", 1, board.dots[-1:])]
    if node[0] == "more":
        _, side, dots = node
        found += [("more", 1 - side, dots), ("more", side, dots[1:]), ("more", side, dots[:-1]), ("more", side, dots[::-1])]
        found += [("more", side, dots + dots[-1:]), ("more", side, dots[:1] + dots)]
        found += [("more", side, tuple(sorted(dots + (dot,)))) for dot in board.dots]
    else:
        _, side, dot, first, second = node
        found += [("split", 1 - side, dot, first, second), ("split", side, dot, second, first), first, second]
        found += [("split", side, other, first, second) for other in board.dots]
        found += [("split", side, dot, first, first), ("split", side, dot, node, second)]
    return found


class MixedTest(unittest.TestCase):
    def check(self, one, other, looks, k):
        result = mixed(one, other, looks, k)
        self.assertIs(type(result), tuple)
        pairs = brute.mix_ups(one, other, looks, k)
        self.assertEqual(result[0], "mixed" if pairs else "apart")
        if pairs:
            self.assertIn(result[1:], pairs)
        else:
            self.assertEqual(len(result), 2)
            self.assertTrue(brute.closes((one, other), looks, k, result[1]))
        self.assertIs(shows_mixed(one, other, looks, k, result), True)
        return result

    def test_against_the_words(self):
        words = []
        for one, other, looks, k in cases(50, 700):
            with self.subTest(one=one.pictures, other=other.pictures, looks=looks, k=k):
                words.append(self.check(one, other, looks, k)[0])
        self.assertGreater(min(words.count("mixed"), words.count("apart")), 100)

    def test_all_k(self):
        trees = []
        for one, other, looks, _ in cases(51, 250):
            words = []
            for k in range(5):
                result = self.check(one, other, looks, k)
                words.append(result[0])
                trees.append(result[1])
            # With a greater k what was mixed up still is.
            self.assertEqual(words, sorted(words))
        self.assertGreater(len([tree for tree in trees if not isinstance(tree, Dead) and tree[0] == "split"]), 10)

    def test_all_pictures_of_two_by_two(self):
        board = Board(("oo", "oo"))
        made = [Film((Picture(board, dots),)) for dots in brute.subsets(board.dots)]
        for one, other in itertools.product(made, repeat=2):
            for k in (0, 1, 2):
                self.check(one, other, (0,), k)

    def test_all_films_of_one_row(self):
        board = Board(("oo",))
        pictures = [Picture(board, dots) for dots in brute.subsets(board.dots)]
        made = [Film(pair) for pair in itertools.product(pictures, repeat=2)]
        for one, other in itertools.product(made, repeat=2):
            for k in (0, 1, 2):
                self.check(one, other, (0, 1), k)

    def test_the_table(self):
        board = Board(("oo", "oo"))
        first, second = ((0, 0),), ((1, 1),)
        here, none = Picture(board, first), Picture(board)
        # Lit by one alone: to be met on its side alone.
        lit, dark, late = Film((here, none)), Film((none,)), Film((none, here))
        self.assertEqual(mixed(lit, dark, (0,), 0), ("apart", ("more", 0, first)))
        self.assertEqual(mixed(dark, lit, (0,), 0), ("apart", ("more", 1, first)))
        self.assertIs(shows_mixed(lit, dark, (0,), 0, ("apart", ("more", 1, first))), False)
        self.assertEqual([len(dead) for dead in mixed(lit, dark, (0,), 1)[1:]], [1, 0])
        # Not lit at any of the looks.
        self.assertEqual(mixed(lit, dark, (1, 3), 0), ("mixed", Dead(board), Dead(board)))
        # Lit by both, not at the same looks: on both sides.
        for side in (0, 1):
            self.assertIs(shows_mixed(lit, late, (0, 1), 0, ("apart", ("more", side, first))), True)
        self.assertEqual([len(dead) for dead in mixed(lit, late, (0, 1), 1)[1:]], [1, 1])
        # Lit by both at the same looks: as soon as it is met on the other side.
        for side in (0, 1):
            self.assertIs(shows_mixed(lit, lit, (0, 1), 0, ("apart", ("more", side, first))), False)
        both = Film((Picture(board, ((0, 0), (0, 1))),))
        alone = Film((Picture(board, ((0, 1),)),))
        tree = ("split", 0, (0, 0), ("more", 1, ((0, 1),)), ("more", 0, ()))
        self.assertIs(shows_mixed(both, alone, (0,), 1, ("apart", tree)), False)
        self.assertIs(shows_mixed(both, alone, (0,), 0, ("apart", tree)), True)
        deads = Dead(board, (0,)), Dead(board, (0,))
        self.assertIs(shows_mixed(both, alone, (0,), 1, ("mixed", *deads)), True)
        self.assertIs(shows_mixed(both, alone, (0,), 1, ("mixed", deads[0], Dead(board))), False)

    def test_twelve_looks_and_far_ticks(self):
        board = Board(("ooo", "ooo", "ooo"))
        generator = random.Random(52)
        for _ in range(30):
            one = brute.any_film(generator, board, 7, 0.5)
            other = Film(one.pictures[:6] + (one.pictures[6] ^ Picture(board, ((0, 0),)),))
            looks = tuple(sorted(generator.sample(range(10 ** 9), 12)))
            for k in range(5):
                self.check(one, other, looks, k)
            self.check(one, other, tuple(range(12)), 2)
            self.check(one, other, tuple(range(6)), 2)

    def test_the_same_film(self):
        for rows in (("o",), ("oo", "o."), ("o" * 10,) * 10):
            board = Board(rows)
            film = Film((Picture(board, board.dots), Picture(board)))
            for k in range(5):
                result = mixed(film, film + film, (0, 1, 2), k)
                self.assertEqual(result[0], "mixed")
                self.assertIs(shows_mixed(film, film + film, (0, 1, 2), k, result), True)
                self.assertIs(shows_mixed(film, film, (0,), k, ("mixed", Dead(board), Dead(board))), True)

    def test_nothing_lit_and_all_lit(self):
        board = Board(("ooo",) * 4)
        dark, lit = Film((Picture(board),)), Film((Picture(board, board.dots),))
        for k in range(5):
            self.assertEqual(mixed(dark, dark, (0,), k), ("mixed", Dead(board), Dead(board)))
            self.assertEqual(mixed(dark, lit, (0,), k)[0], "mixed" if k > 2 else "apart")
            self.assertEqual(mixed(lit, dark, (0,), k)[0], "mixed" if k > 2 else "apart")

    def test_by_position_and_by_name(self):
        for one, other, looks, k in cases(53, 30):
            result = mixed(one, other, looks, k)
            self.assertEqual(mixed(k=k, looks=looks, other=other, one=one), result)
            self.assertIs(shows_mixed(value=result, k=k, looks=looks, other=other, one=one), True)

    def test_equal_boards_made_anew(self):
        for one, other, looks, k in cases(54, 60):
            again = Film(tuple(Picture(Board(other.board.rows), picture.dots) for picture in other.pictures))
            result = mixed(one, other, looks, k)
            self.assertEqual(mixed(one, again, looks, k), result)
            if result[0] == "mixed":
                result = ("mixed", *[Dead(Board(dead.board.rows), dead.rows, dead.columns) for dead in result[1:]])
            self.assertIs(shows_mixed(one, again, looks, k, result), True)

    def test_turned(self):
        for one, other, looks, k in cases(55, 100):
            first, second = [Film(tuple(~picture for picture in film.pictures)) for film in (one, other)]
            result, turned = mixed(one, other, looks, k), mixed(first, second, looks, k)
            self.assertEqual(result[0], turned[0])
            if result[0] == "mixed":
                value = ("mixed", ~result[1], ~result[2])
                self.assertIs(shows_mixed(first, second, looks, k, value), True)

    def test_sides_exchanged(self):
        for one, other, looks, k in cases(56, 100):
            result, back = mixed(one, other, looks, k), mixed(other, one, looks, k)
            self.assertEqual(result[0], back[0])
            if result[0] == "mixed":
                self.assertIs(shows_mixed(other, one, looks, k, ("mixed", result[2], result[1])), True)
            good = result[0] == "mixed" and (result[2], result[1]) in brute.mix_ups(one, other, looks, k)
            if result[0] == "mixed":
                self.assertIs(shows_mixed(one, other, looks, k, ("mixed", result[2], result[1])), good)


class ShowsMixedTest(unittest.TestCase):
    def test_all_pairs_of_deads(self):
        accepted = 0
        for one, other, looks, k in cases(60, 80):
            if len(one.board.wires) > 5:
                continue
            deads = brute.all_deads(one.board)
            for first, second in itertools.product(deads, repeat=2):
                good = len(first) <= k and len(second) <= k and shown(one, looks, first) == shown(other, looks, second)
                alike = brute.look_alike(one, other, looks, first.wires, second.wires)
                self.assertIs(good, len(first) <= k and len(second) <= k and alike)
                self.assertIs(shows_mixed(one, other, looks, k, ("mixed", first, second)), good)
                accepted += good
        self.assertGreater(accepted, 200)

    def test_changed_trees(self):
        kept = refused = 0
        for one, other, looks, k in cases(61, 900):
            result = mixed(one, other, looks, k)
            if result[0] != "apart":
                continue
            with self.subTest(one=one.pictures, other=other.pictures, looks=looks, k=k):
                for path, node in nodes(result[1])[:12]:
                    for changed in changed_nodes(one.board, node):
                        tree = with_node(result[1], path, changed)
                        good = brute.closes((one, other), looks, k, tree)
                        self.assertIs(shows_mixed(one, other, looks, k, ("apart", tree)), good, tree)
                        kept += good
                        refused += not good
        self.assertGreater(min(kept, refused), 300)

    def test_all_leaves(self):
        accepted = 0
        for one, other, looks, _ in cases(65, 150):
            if len(one.board) > 9:
                continue
            for leaf in [("more", side, dots) for side in (0, 1) for dots in brute.subsets(one.board.dots, 3)]:
                for k in range(5):
                    good = brute.closes((one, other), looks, k, leaf)
                    self.assertIs(shows_mixed(one, other, looks, k, ("apart", leaf)), good)
                    accepted += good
        self.assertGreater(accepted, 200)

    def test_all_leaves_below_one_split(self):
        accepted = tried = 0
        for one, other, looks, k in cases(66, 900):
            result = mixed(one, other, looks, k)
            if len(one.board) > 9 or result[0] == "mixed" or len(nodes(result[1])) != 3 or tried == 6:
                continue
            tried += 1
            for side, dots in itertools.product((0, 1), brute.subsets(one.board.dots, 3)):
                for path in ((3,), (4,)):
                    tree = with_node(result[1], path, ("more", side, dots))
                    good = brute.closes((one, other), looks, k, tree)
                    self.assertIs(shows_mixed(one, other, looks, k, ("apart", tree)), good)
                    accepted += good
        self.assertGreater(min(tried, accepted // 4), 2)

    def test_one_thing_otherwise(self):
        for one, other, looks, k in cases(62, 200):
            result = mixed(one, other, looks, k)
            with self.subTest(one=one.pictures, other=other.pictures, looks=looks, k=k):
                for value in wrong_forms(result):
                    self.assertIs(shows_mixed(one, other, looks, k, value), False, value)

    def test_wrong_nodes(self):
        for one, other, looks, k in cases(63, 150):
            result = mixed(one, other, looks, k)
            if result[0] != "apart":
                continue
            for path, node in nodes(result[1])[:8]:
                wrong = [node + (0,), node[:-1], list(node), ("apart",) + node[1:], (node,), None, "more", (), ("apart", node)]
                wrong += [("split" if node[0] == "more" else "more",) + node[1:]]
                for side in (2, -1, True, False, None, "0", (0,)):
                    wrong.append(node[:1] + (side,) + node[2:])
                dots = ((99, 99), (-1, 0), [0, 0], None, 0, "00", ("row", 0), (0,), (0, 0, 0), Dead(one.board), ([], 0))
                for dot in dots:
                    wrong.append(node[:2] + ((dot,),) + node[3:])
                    wrong.append(node[:2] + (dot,) + node[3:])
                for changed in wrong:
                    tree = with_node(result[1], path, changed)
                    self.assertIs(shows_mixed(one, other, looks, k, ("apart", tree)), False, tree)

    def test_deeper_trees_than_needed(self):
        board = Board(("o" * 10,) * 10)
        lit, dark = Film((Picture(board, board.dots),)), Film((Picture(board),))
        tree = ("more", 0, ())
        for at in range(9, -1, -1):
            tree = ("split", 0, (at, at), tree, ("more", 0, tuple((row, (row + at + 1) % 10) for row in range(at + 1, 10))))
        good = brute.closes((lit, dark), (0,), 4, tree)
        self.assertIs(shows_mixed(lit, dark, (0,), 4, ("apart", tree)), good)
        chain = ("more", 0, ())
        for at in range(9, -1, -1):
            chain = ("split", 0, (at, 0), chain, ("more", 0, ()))
        self.assertIs(shows_mixed(lit, dark, (0,), 4, ("apart", chain)), False)
        shared = ("more", 0, ())
        for at in range(4, -1, -1):
            shared = ("split", 0, (at, at), shared, shared)
        self.assertIs(shows_mixed(lit, dark, (0,), 4, ("apart", shared)), True)
        self.assertIs(shows_mixed(lit, dark, (0,), 4, ("apart", shared[3])), False)

    def test_deads_of_another_board(self):
        board, other = Board(("oo",)), Board(("oo", "oo"))
        film = Film((Picture(board),))
        good = Dead(board)
        for wrong in (Dead(other), Dead(~other), Dead(~board), Picture(board), film, board):
            self.assertIs(shows_mixed(film, film, (0,), 1, ("mixed", good, wrong)), False)
            self.assertIs(shows_mixed(film, film, (0,), 1, ("mixed", wrong, good)), False)
            self.assertIs(shows_mixed(film, film, (0,), 1, ("mixed", wrong, wrong)), False)
        self.assertIs(shows_mixed(film, film, (0,), 1, ("mixed", good, good)), True)

    def test_any_value(self):
        board = Board(("oo", "oo"))
        lit, dark = Film((Picture(board, ((0, 1),)),)), Film((Picture(board),))
        for k in (0, 1):
            for value in any_values():
                for made in (value, ("mixed", value, value), ("mixed", Dead(board, (0,)), value), ("apart", value),
                             ("apart", ("more", value, value)), ("apart", ("more", 0, value)), ("apart", ("more", value, ())),
                             ("apart", ("split", value, value, value, value)), ("apart", ("split", 0, (0, 1), value, value)),
                             ("apart", (value, 0, ())), (value,), (value, value), (value, value, value)):
                    self.assertIs(shows_mixed(lit, dark, (0,), k, made), False, made)

    def test_nothing_is_changed(self):
        for one, other, looks, k in cases(64, 30):
            before = dict(vars(one)), dict(vars(other))
            result = mixed(one, other, looks, k)
            self.assertEqual(mixed(one, other, looks, k), result)
            self.assertIs(shows_mixed(one, other, looks, k, result), True)
            self.assertEqual((vars(one), vars(other)), before)

    def test_words_of_a_tree_alone_do_not_close(self):
        board = Board(("oo",))
        film = running(board, ((0,), ()))
        for tree in (("more", 0, ()), ("more", 1, ()), ("split", 0, (0, 0), ("more", 0, ()), ("more", 0, ()))):
            for k in range(5):
                self.assertIs(shows_mixed(film, film, (0,), k, ("apart", tree)), False)


if __name__ == "__main__":
    unittest.main()
