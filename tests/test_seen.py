"""Tests of marktopples.seen: point [11], and what points [2] (e) and [3] say of it."""

import itertools
import random
import unittest

from marktopples import seen as seen_file
from marktopples.errors import Conflict, FallError
from marktopples.falls import falls_of, needed_pushes
from marktopples.seen import fewest_behind, find_conflict, ranges_of
from tests.samples import (
    LAST_TICK, LONGEST, SEVERAL, SMALL, T, chain, check_call, check_interface, check_raises, plain_distances,
    plain_falls, push_choices, random_tree, shapes_with, star, tables_to,
)


def plain_conflict(tree, seen):
    """Return the smallest two seen marks that exclude each other, found by a search over all pairs."""
    far = plain_distances(tree)
    pairs = [
        (one, other) for (one, tick), (other, later) in itertools.product(seen, repeat=2)
        if one < other and abs(tick - later) > far[one][other]
    ]
    return min(pairs, default=None)


def agrees(seen, table):
    return all(table[mark] == tick for mark, tick in seen)


def some_of(chance, table):
    """Return some, all or none of the falls of a table as seen falls."""
    share = chance.choice([0, 1, 2, 3, 4])
    return tuple((mark, tick) for mark, tick in enumerate(table) if chance.randint(1, 4) <= share)


def random_seen(chance, marks, last):
    share = chance.randint(1, 4)
    return tuple((mark, chance.randint(0, last)) for mark in range(marks) if chance.randint(1, 4) <= share)


def cases(seed, many, most=12):
    """Return trees with seen falls of pushes, also with one tick moved, and with others."""
    chance = random.Random(seed)
    found = []
    while len(found) < many:
        marks = chance.randint(1, most)
        tree = random_tree(chance, marks, chance.choice([1, 3, 20, LONGEST]))
        last = chance.choice([0, 4, 30, LAST_TICK - 12 * LONGEST])
        pushes = tuple((chance.randint(0, marks - 1), chance.randint(0, last)) for _ in range(chance.randint(1, 4)))
        seen = some_of(chance, falls_of(tree, pushes))
        found.append((tree, seen))
        if seen:
            found.append((tree, moved(seen, chance.randrange(len(seen)), chance.choice([-1, 1]))))
        found.append((tree, random_seen(chance, marks, chance.choice([1, 9, 50, LAST_TICK]))))
    return found


def moved(seen, index, by):
    mark, tick = seen[index]
    return seen[:index] + ((mark, max(0, tick + by)),) + seen[index + 1:]


class ExampleTest(unittest.TestCase):

    def test_find_conflict(self):
        found = [find_conflict(T, ((0, 1), (2, 8))), find_conflict(T, ((0, 1), (2, 4)))]
        self.assertEqual(repr(found), "[(0, 2), None]")

    def test_ranges_of(self):
        found = [ranges_of(T, ((0, 1), (2, 4))), ranges_of(T, ())]
        self.assertEqual(repr(found), "[((1, 1), (1, 3), (4, 4)), ((0, None), (0, None), (0, None))]")

    def test_fewest_behind(self):
        found = [fewest_behind(T, ((0, 1), (2, 4))), fewest_behind(T, ((0, 1), (2, 6))), fewest_behind(T, ())]
        self.assertEqual(repr(found), "[2, 1, 1]")


class InterfaceTest(unittest.TestCase):

    def test_functions_are_defined_in_the_file(self):
        check_interface(self, seen_file, {
            "find_conflict": ["tree", "seen"],
            "ranges_of": ["tree", "seen"],
            "fewest_behind": ["tree", "seen"],
        })


class FindConflictTest(unittest.TestCase):

    def check_conflict(self, tree, seen):
        found = check_call(self, find_conflict, tree, seen)
        self.assertEqual(found, plain_conflict(tree, seen), (tree, seen))
        return found

    def test_against_all_pairs(self):
        found = [self.check_conflict(tree, seen) for tree, seen in cases(51, 900)]
        self.assertGreater(found.count(None), 100)
        self.assertGreater(len(found) - found.count(None), 100)

    def test_falls_of_pushes_agree_with_themselves(self):
        chance = random.Random(52)
        for tree in SEVERAL:
            for many in (1, 2, 5, 20):
                pushes = tuple((chance.randint(0, len(tree)), chance.randint(0, LAST_TICK)) for _ in range(many))
                seen = tuple(enumerate(falls_of(tree, pushes)))
                for part in (seen, seen[:1], seen[1:], seen[::2], ()):
                    self.assertIsNone(self.check_conflict(tree, part))

    def test_nothing_seen_and_one_mark_seen(self):
        for tree in SEVERAL:
            self.assertIsNone(self.check_conflict(tree, ()))
            for mark in range(len(tree) + 1):
                for tick in (0, 1, LAST_TICK):
                    self.assertIsNone(self.check_conflict(tree, ((mark, tick),)))

    def test_one_tick_moved(self):
        for tree in SEVERAL:
            seen = tuple(enumerate(falls_of(tree, ((0, 5 * LONGEST), (len(tree), 6 * LONGEST)))))
            far = plain_distances(tree)
            for index, other in itertools.product(range(len(seen)), repeat=2):
                for by in (1, far[index][other], far[index][other] + 1):
                    self.check_conflict(tree, moved(seen, index, by))
                    self.check_conflict(tree, moved(seen, index, -by))

    def test_differences_of_just_the_distance_and_of_one_more(self):
        for tree in SEVERAL:
            far = plain_distances(tree)
            for one, other in itertools.combinations(range(len(tree) + 1), 2):
                for tick in (0, 7, LAST_TICK - far[one][other] - 1):
                    way = far[one][other]
                    for seen in (((one, tick), (other, tick + way)), ((one, tick + way), (other, tick))):
                        self.assertIsNone(self.check_conflict(tree, seen))
                    for seen in (((one, tick), (other, tick + way + 1)), ((one, tick + way + 1), (other, tick))):
                        self.assertEqual(self.check_conflict(tree, seen), (one, other))

    def test_smallest_of_several_pairs(self):
        self.assertEqual(find_conflict(chain(3), ((0, 0), (1, 9), (2, 0))), (0, 1))
        self.assertEqual(find_conflict(chain(3), ((0, 0), (1, 1), (2, 9))), (0, 2))
        self.assertEqual(find_conflict(chain(3), ((0, 9), (1, 8), (2, 0))), (0, 2))
        self.assertEqual(find_conflict(star(4), ((1, 0), (2, 2), (3, 9))), (1, 3))
        self.assertEqual(find_conflict(star(4), ((1, 7), (2, 5), (3, 2))), (1, 3))
        self.assertEqual(find_conflict(star(12), ((1, 0), (2, 0), (10, 2), (11, 3))), (1, 11))
        self.assertEqual(find_conflict(star(12), ((9, 2), (10, 4), (11, 7))), (9, 11))

    def test_one_to_twelve_marks_with_the_bounds(self):
        chance = random.Random(53)
        for marks in range(1, 13):
            for tree in (chain(marks, 1), chain(marks, LONGEST), star(marks, 1), star(marks, LONGEST)):
                for ticks in ([0], [LAST_TICK], [0, LAST_TICK], [0, 1], [0, LONGEST], [LAST_TICK - 1, LAST_TICK]):
                    seen = tuple((mark, chance.choice(ticks)) for mark in range(marks))
                    self.check_conflict(tree, seen)
                    self.check_conflict(tree, seen[marks // 2:])

    def test_a_conflict_excludes_all_tables_and_nothing_else_does(self):
        chance = random.Random(54)
        found = []
        for tree in SMALL:
            top = 3 + sum(length for _, length in tree)
            tables = tables_to(tree, min(top, 8))
            for _ in range(12):
                seen = random_seen(chance, len(tree) + 1, 3)
                some = any(agrees(seen, table) for table in tables)
                self.assertIs(find_conflict(tree, seen) is None, some, (tree, seen))
                found.append(some)
        self.assertGreater(found.count(True), 50)
        self.assertGreater(found.count(False), 50)


class ConflictErrorTest(unittest.TestCase):

    def test_the_pair_is_that_of_find_conflict(self):
        many = 0
        for tree, seen in cases(55, 300) + [(T, ((0, 1), (2, 8)))]:
            pair = plain_conflict(tree, seen)
            if pair is not None:
                many += 1
                check_raises(self, Conflict, "pair", pair, ranges_of, tree, seen)
                check_raises(self, Conflict, "pair", pair, fewest_behind, tree, seen)
        self.assertGreater(many, 40)

    def test_it_is_a_fall_error(self):
        for function in (ranges_of, fewest_behind):
            with self.assertRaises(FallError):
                function(T, ((0, 1), (2, 8)))


class RangesOfTest(unittest.TestCase):

    def check_ranges(self, tree, seen):
        found = check_call(self, ranges_of, tree, seen)
        far = plain_distances(tree)
        for mark, (low, high) in enumerate(found):
            self.assertEqual(low, max([0] + [tick - far[other][mark] for other, tick in seen]))
            self.assertEqual(high, min([tick + far[other][mark] for other, tick in seen], default=None))
        self.assertEqual(len(found), len(tree) + 1)
        self.assertTrue(type(found) is tuple and all(type(item) is tuple for item in found))
        return found

    def test_each_number_of_a_range_occurs_and_no_other_one(self):
        """Guarantee (e)."""
        chance = random.Random(56)
        for tree in SMALL:
            last = 3 if len(tree) > 2 else 4
            # Above last there is room for what the rows allow, and for one tick more.
            tables = tables_to(tree, min(last + sum(length for _, length in tree) + 1, 9))
            done = 0
            while done < 12:
                seen = random_seen(chance, len(tree) + 1, min(last, 8 - sum(length for _, length in tree)))
                if seen and plain_conflict(tree, seen) is None:
                    done += 1
                    columns = list(zip(*[table for table in tables if agrees(seen, table)]))
                    found = self.check_ranges(tree, seen)
                    for (low, high), column in zip(found, columns):
                        self.assertEqual(set(column), set(range(low, high + 1)), (tree, seen))

    def test_each_number_occurs_in_a_table_with_long_rows(self):
        chance = random.Random(57)
        for tree, seen in cases(58, 200):
            if seen and plain_conflict(tree, seen) is None:
                for mark, (low, high) in enumerate(self.check_ranges(tree, seen)):
                    for number in {low, high, chance.randint(low, high)}:
                        more = dict(seen)
                        self.assertEqual(more.get(mark, number), number)
                        more[mark] = number
                        self.assertIsNone(plain_conflict(tree, tuple(sorted(more.items()))))

    def test_nothing_seen(self):
        for tree in SEVERAL:
            self.assertEqual(self.check_ranges(tree, ()), ((0, None),) * (len(tree) + 1))

    def test_high_is_a_number_if_anything_was_seen(self):
        for tree in SEVERAL:
            far = plain_distances(tree)
            for mark in range(len(tree) + 1):
                for tick in (0, 4, LAST_TICK):
                    found = self.check_ranges(tree, ((mark, tick),))
                    self.assertEqual([high for _, high in found], [tick + way for way in far[mark]])
                    self.assertEqual(found[mark], (tick, tick))

    def test_zero_is_the_least_low(self):
        self.assertEqual(ranges_of(T, ((0, 1),)), ((1, 1), (0, 3), (0, 6)))
        self.assertEqual(ranges_of(T, ((0, 2),)), ((2, 2), (0, 4), (0, 7)))
        self.assertEqual(ranges_of(T, ((0, 3),)), ((3, 3), (1, 5), (0, 8)))
        self.assertEqual(ranges_of(T, ((0, 6),)), ((6, 6), (4, 8), (1, 11)))

    def test_all_marks_seen(self):
        for tree in SEVERAL:
            table = falls_of(tree, ((0, 3), (len(tree), LAST_TICK)))
            found = ranges_of(tree, tuple(enumerate(table)))
            self.assertEqual(found, tuple((number, number) for number in table))

    def test_ticks_above_the_bound_are_worked_out_in_the_same_way(self):
        tree = chain(12, LONGEST)
        first = LAST_TICK + 11 * LONGEST
        self.check_ranges(tree, ((11, first),))
        self.assertEqual(ranges_of(tree, ((11, first),))[0], (LAST_TICK, LAST_TICK + 22 * LONGEST))


class FewestBehindTest(unittest.TestCase):

    def plain_fewest(self, tree, seen):
        """Return the least number of marks whose pushes, as early as possible, lead to the seen falls."""
        far = plain_distances(tree)
        marks = range(len(tree) + 1)
        first = [max([0] + [tick - far[other][mark] for other, tick in seen]) for mark in marks]
        for many in range(1, len(tree) + 2):
            for chosen in itertools.combinations(marks, many):
                if agrees(seen, plain_falls(tree, tuple((mark, first[mark]) for mark in chosen))):
                    return many
        return None

    def check_fewest(self, tree, seen):
        found = check_call(self, fewest_behind, tree, seen)
        self.assertEqual(found, self.plain_fewest(tree, seen), (tree, seen))
        self.assertIs(type(found), int)
        return found

    def test_against_all_sets_of_marks(self):
        found = []
        for tree, seen in cases(59, 500, 6):
            if plain_conflict(tree, seen) is None:
                found.append(self.check_fewest(tree, seen))
        for many in (1, 2, 3, 4):
            self.assertIn(many, found)

    def test_all_shapes(self):
        chance = random.Random(60)
        for lengths in ((1, 1, 1, 1), (1, 2, 1, 3), (2, 1, 3, 1, 2)):
            for tree in shapes_with(lengths)[::3]:
                marks = len(tree) + 1
                pushes = tuple((chance.randrange(marks), chance.randint(0, 4)) for _ in range(3))
                self.check_fewest(tree, some_of(chance, falls_of(tree, pushes)))

    def test_against_all_pushes(self):
        chance = random.Random(61)
        for tree in SMALL:
            if len(tree) < 3:
                choices = [(len(pushes), plain_falls(tree, pushes)) for pushes in push_choices(tree, 4)]
                done = 0
                while done < 12:
                    seen = random_seen(chance, len(tree) + 1, 4)
                    if plain_conflict(tree, seen) is None:
                        done += 1
                        least = min(many for many, table in choices if agrees(seen, table))
                        self.assertEqual(self.check_fewest(tree, seen), least, (tree, seen))

    def test_nothing_seen(self):
        for tree in SEVERAL:
            self.assertEqual(check_call(self, fewest_behind, tree, ()), 1)

    def test_one_mark_seen(self):
        for tree in SEVERAL:
            for mark in range(len(tree) + 1):
                for tick in (0, LAST_TICK):
                    self.assertEqual(fewest_behind(tree, ((mark, tick),)), 1)

    def test_all_marks_seen_need_as_many_as_the_needed_pushes(self):
        chance = random.Random(62)
        for tree in SEVERAL * 5:
            many = chance.randint(1, 9)
            pushes = tuple((chance.randint(0, len(tree)), chance.choice([0, 3, LAST_TICK])) for _ in range(many))
            table = falls_of(tree, pushes)
            self.assertEqual(fewest_behind(tree, tuple(enumerate(table))), len(needed_pushes(tree, table)))

    def test_a_push_for_each_mark(self):
        for tree in SEVERAL:
            marks = len(tree) + 1
            for tick in (0, 5, LAST_TICK):
                self.assertEqual(fewest_behind(tree, tuple((mark, tick) for mark in range(marks))), marks)


if __name__ == "__main__":
    unittest.main()
