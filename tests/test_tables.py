"""Points [40] to [44]."""

import unittest

from tests.case import Case
from tests.model import (
    all_orders, deeds_one_by_one, determinant_of, large_lines, named_anew, product_of, quick_led, runs_of_word,
    sign_of_crossing, small_lines, some_lengths, some_orders, some_runs, some_word, table_of_word, units, word_of_runs,
)
from tests.wrong import NOT_LENGTHS, NOT_ORDERS, NOT_RUNS, NOT_TABLES, TURNED_40
from turnlines.errors import InvalidLengths, InvalidOrder, InvalidRun, InvalidTable
from turnlines.exchanges import led_cell
from turnlines.runs import end_of, led_by_runs, runs_of, takes_first
from turnlines.tables import (
    lengths_ahead, never_winning, positive_power, runs_from, runs_table, signed_crossings, times_of,
)
from turnlines.ways import comes_round, way_back

TURNED = [2, 1, 0]
FAR = 10 ** 29
SMALL = [order for size in range(2, 6) for order in all_orders(size)]

# Runs of at most 600 figures together, and of 600 tuples.
LONG_RUNS = [some_runs(20, 10 ** 30 - 1, 1), some_runs(600, 9, 2), some_runs(300, 99, 3), [("u", 10 ** 599)]]


# Runs that come round, the least powers of whose tables without an item 0 are greater than most.
SLOW_RUNS = [
    ([2, 3, 0, 1], [("l", 1), ("u", 1), ("l", 2), ("u", 1)], 3),
    ([2, 3, 0, 1], [("u", 1), ("l", 1), ("u", 5), ("l", 1)], 3),
    ([4, 2, 1, 0, 3], [("u", 1), ("l", 1), ("u", 1), ("l", 1), ("u", 1), ("l", 1), ("u", 2), ("l", 3), ("u", 3)], 4),
    ([5, 1, 2, 3, 4, 0], [("l", 4), ("u", 1), ("l", 1), ("u", 3)], 5),
]


def orders_with_runs():
    """List orders with runs, few and many, of small times."""
    told = [(order, some_runs(at % 5, 6, at)) for at, order in enumerate(SMALL)]
    return told + [(order, some_runs(9, 30, at)) for at, order in enumerate(some_orders([4, 6, 7, 9], 4))]


def runs_that_come_round():
    """List orders with runs that lead them to themselves, some of which let each letter win."""
    told = [(order, runs) for order, runs, _ in SLOW_RUNS]
    for at, order in enumerate(SMALL[1:] + some_orders([6, 7, 8], 3)):
        word = some_word(at % 9 + 1, at)
        told.append((order, runs_of_word(word * comes_round(order, word))))
        word = some_word(20, at)
        told.append((order, runs_of_word(word + way_back(order, word))))
    return [(order, runs) for order, runs in told if len(runs) < 400]


def winners_of(order, runs):
    """Follow the letters for as many rounds as there are letters; list those that win."""
    upper, lower, found = list(range(len(order))), list(order), set()
    for deed in word_of_runs(runs) * len(order):
        if deed == "u":
            winner, loser = upper[-1], lower.pop()
            lower.insert(lower.index(winner) + 1, loser)
        else:
            winner, loser = lower[-1], upper.pop()
            upper.insert(upper.index(winner) + 1, loser)
        found.add(winner)
    assert named_anew(upper, lower) == order
    return found


def transposed(table):
    """Turn a table about."""
    return [list(row) for row in zip(*table)]


class RunsTableTest(Case):
    def test_written_out(self):
        for order, runs, expected in [
            (TURNED, [("u", 1)], [[1, 0, 0], [0, 1, 0], [1, 0, 1]]),
            (TURNED, [("l", 1)], [[1, 1, 0], [0, 0, 1], [0, 1, 0]]),
            ([1, 0], [("u", 2), ("l", 1)], [[1, 1], [2, 3]]), (TURNED, [], [[1, 0, 0], [0, 1, 0], [0, 0, 1]]),
            ([1, 0], [("l", FAR)], [[1, FAR], [0, 1]]), ([1, 0], [("u", FAR), ("l", 2)], [[1, 2], [FAR, 2 * FAR + 1]]),
            (TURNED, [("u", 3)], [[1, 0, 0], [0, 1, 0], [2, 1, 1]]),
            (TURNED, [("u", 2 * FAR)], [[1, 0, 0], [0, 1, 0], [FAR, FAR, 1]]),
        ]:
            self.assert_told(expected, runs_table, order, runs)

    def test_against_the_deeds(self):
        for order, runs in orders_with_runs():
            self.assertEqual(repr(table_of_word(order, word_of_runs(runs))), repr(self.told(runs_table, order, runs)))

    def test_determinants(self):
        for order, runs in orders_with_runs():
            self.assertIn(determinant_of(runs_table(order, runs)), [1, -1])
        self.assertEqual({1, -1}, {determinant_of(runs_table(TURNED, [("l", times)])) for times in [1, 2]})
        for order in some_orders([5, 9], 2):
            for runs in LONG_RUNS:
                self.assertIn(determinant_of(runs_table(order, runs)), [1, -1])

    def test_further_runs(self):
        for at, (order, runs) in enumerate(orders_with_runs()):
            further = [run for run in some_runs(5, 50, at) if not runs or run[0] != runs[-1][0]][:1]
            table = product_of(runs_table(order, runs), runs_table(led_by_runs(order, runs), further))
            self.assertEqual(table, runs_table(order, runs + further))

    def test_parts_of_long_runs(self):
        for order in some_orders([2, 3, 8, 20], 1):
            for runs in LONG_RUNS[:3]:
                for cut in [1, len(runs) // 2, len(runs) - 1]:
                    behind = led_by_runs(order, runs[:cut])
                    table = product_of(runs_table(order, runs[:cut]), runs_table(behind, runs[cut:]))
                    self.assertEqual(table, runs_table(order, runs))

    def test_new_lists(self):
        told = runs_table(TURNED, [])
        told[0][0], told[1] = 7, []
        self.assert_told(units(3), runs_table, TURNED, [])


class LengthsAheadTest(Case):
    def test_written_out(self):
        for order, runs, lengths, expected in [
            (TURNED, [("u", 3)], [2, 1, 1], [2, 1, 6]), (TURNED, [], [2, 1, 1], [2, 1, 1]),
            ([1, 0], [("l", FAR)], [1, 1], [FAR + 1, 1]),
            (TURNED, [("l", 1)], [1, 3, 1], [4, 1, 3]), ([1, 0], [("u", 2), ("l", 1)], [5, 6], [11, 28]),
        ]:
            self.assert_told(expected, lengths_ahead, order, runs, lengths)

    def test_lengths_take_the_runs_and_have_the_told_ones_behind(self):
        for at, (order, runs) in enumerate(orders_with_runs()):
            lengths = some_lengths([len(order)], 9, at)[0]
            ahead = self.told(lengths_ahead, order, runs, lengths)
            word, behind = word_of_runs(runs), deeds_one_by_one(order, ahead)[0]
            self.assertEqual(word, behind[:len(word)])
            self.assertIs(True, takes_first(order, ahead, runs))
            table = runs_table(order, runs)
            self.assertEqual([sum(x * y for x, y in zip(row, lengths)) for row in table], ahead)
            rest = deeds_one_by_one(led_by_runs(order, runs), lengths)
            self.assertEqual(word + rest[0], behind)
            self.assertEqual(rest[1:], end_of(order, ahead))

    def test_long_runs(self):
        for at, order in enumerate(some_orders([3, 9, 40], 1)):
            for runs in LONG_RUNS:
                lengths = some_lengths([len(order)], FAR, at)[0]
                ahead = self.told(lengths_ahead, order, runs, lengths)
                self.assertIs(True, takes_first(order, ahead, runs))
                self.assertIs(False, takes_first(order, [length - 1 or 1 for length in lengths], runs))

    def test_lengths_that_do_not_take_the_runs_come_of_none(self):
        # The table undone leads lengths that take the runs, and only those, to lengths again.
        runs = [("u", 2), ("l", 1)]
        for one in range(1, 12):
            for other in range(1, 12):
                behind = [3 * one - other, other - 2 * one]
                expected = min(behind) >= 1
                self.assertIs(expected, takes_first([1, 0], [one, other], runs))
                if expected:
                    self.assertEqual([one, other], lengths_ahead([1, 0], runs, behind))

    def test_a_new_list(self):
        self.assert_new_lists(lengths_ahead, TURNED, [], [2, 1, 1])


class TimesOfTest(Case):
    def test_written_out(self):
        for order, runs, expected in [
            (TURNED, [("u", 3)], [3, 2, 1]), (TURNED, [], [1, 1, 1]), ([1, 0], [("u", 2), ("l", 1)], [3, 4]),
            ([1, 0], [("l", FAR)], [1, FAR + 1]), (TURNED, [("l", 1)], [1, 2, 1]),
        ]:
            self.assert_told(expected, times_of, order, runs)

    def test_sums_of_columns(self):
        for at, (order, runs) in enumerate(orders_with_runs()):
            told, lengths = self.told(times_of, order, runs), some_lengths([len(order)], 9, at)[0]
            self.assertEqual([sum(column) for column in zip(*runs_table(order, runs))], told)
            ahead = lengths_ahead(order, runs, lengths)
            self.assertEqual(sum(ahead), sum(time * length for time, length in zip(told, lengths)))

    def test_cells_led_back_to_the_first_cells(self):
        for at, (order, runs) in enumerate(orders_with_runs()[:90:3]):
            lengths = some_lengths([len(order)], 3, at)[0]
            ahead, first = lengths_ahead(order, runs, lengths), 0
            for time, length in zip(times_of(order, runs), lengths):
                for cell in [first, first + length - 1]:
                    there, turns = led_cell(order, ahead, cell), 1
                    while there >= sum(lengths):
                        there, turns = led_cell(order, ahead, there), turns + 1
                    self.assertEqual(time, turns)
                first += length

    def test_long_runs(self):
        for order in some_orders([3, 40], 1):
            for runs in LONG_RUNS:
                told, lengths = self.told(times_of, order, runs), [FAR] * len(order)
                self.assertEqual(sum(lengths_ahead(order, runs, lengths)), sum(told) * FAR)

    def test_a_new_list(self):
        self.assert_new_lists(times_of, TURNED, [("u", 3)])


class SignedCrossingsTest(Case):
    def test_written_out(self):
        for order, expected in [
            (TURNED, [[0, 1, 1], [-1, 0, 1], [-1, -1, 0]]), ([1, 0], [[0, 1], [-1, 0]]),
            ([2, 0, 1], [[0, 0, 1], [0, 0, 1], [-1, -1, 0]]), ([1, 2, 0], [[0, 1, 1], [-1, 0, 0], [-1, 0, 0]]),
        ]:
            self.assert_told(expected, signed_crossings, order)

    def test_item_by_item(self):
        for order in SMALL + some_orders([6, 9, 20, 40], 2):
            letters = range(len(order))
            expected = [[sign_of_crossing(order, x, y) for y in letters] for x in letters]
            self.assertEqual(repr(expected), repr(self.told(signed_crossings, order)))

    def test_runs_keep_them(self):
        long = [(order, runs) for order in some_orders([3, 9], 1) for runs in LONG_RUNS]
        for order, runs in orders_with_runs() + long:
            table = runs_table(order, runs)
            kept = product_of(product_of(transposed(table), signed_crossings(order)), table)
            self.assertEqual(signed_crossings(led_by_runs(order, runs)), kept)


class ComingRoundTest(Case):
    def test_written_out(self):
        for order, runs, never, power in [
            ([1, 0], [("u", 2), ("l", 1)], [], 1), ([1, 0], [("u", 5)], [0], None), ([1, 0], [("l", 1)], [1], None),
            (TURNED, [("u", 2), ("l", 2)], [1], None), (TURNED, [("u", 2)], [0, 1], None),
            ([1, 0], [("l", FAR), ("u", FAR)], [], 1),
        ] + [(order, runs, [], power) for order, runs, power in SLOW_RUNS]:
            self.assert_told(never, never_winning, order, runs)
            self.assert_told(power, positive_power, order, runs)

    def test_following_the_letters(self):
        for order, runs in runs_that_come_round():
            winners = winners_of(order, runs)
            expected = [letter for letter in range(len(order)) if letter not in winners]
            self.assertEqual(repr(expected), repr(self.told(never_winning, order, runs)))

    def test_the_least_power(self):
        found = []
        for order, runs in runs_that_come_round():
            size, table = len(order), runs_table(order, runs)
            power, count = table, 1
            while count <= size * size - 2 * size + 2 and any(item == 0 for row in power for item in row):
                # Which items are 0 is kept if all others are made 1.
                power, count = [[min(item, 1) for item in row] for row in product_of(power, table)], count + 1
            expected = None if any(item == 0 for row in power for item in row) else count
            self.assertEqual(repr(expected), repr(self.told(positive_power, order, runs)))
            self.assertIs(expected is None, bool(never_winning(order, runs)))
            found.append(expected)
        self.assertEqual({None, 1, 2, 3, 4, 5}, set(found))
        self.assertGreater(found.count(None), 20)
        self.assertGreater(len(found) - found.count(None), 20)

    def test_ten_letters(self):
        for order in some_orders([10], 4):
            word = some_word(40, 7)
            runs = runs_of_word(word + way_back(order, word))
            power = self.told(positive_power, order, runs)
            self.assertIs(power is None, never_winning(order, runs) != [])
            self.assertTrue(power is None or 1 <= power <= 82)

    def test_letters_that_change_their_names(self):
        # In one round only some letters win, but under the names of further rounds all others do.
        found = 0
        for order, runs in runs_that_come_round():
            once = set()
            row = order
            for deed in word_of_runs(runs):
                once.add(len(row) - 1 if deed == "u" else row[-1])
                row = list(quick_led(tuple(row), deed))
            found += len(once) < len(order) and never_winning(order, runs) == []
        self.assertGreater(found, 0)

    def test_runs_that_do_not_come_round(self):
        for order, runs in [
            (TURNED, [("u", 1)]), (TURNED, []), ([1, 0], []), (TURNED, [("u", 2), ("l", 1)]), (TURNED_40, [("l", 38)]),
            ([3, 2, 1, 0], [("u", 2)]), (TURNED, [("l", FAR + 1)]),
        ]:
            for function in [never_winning, positive_power]:
                self.assert_refused(InvalidRun, runs, function, order, runs)

    def test_40_letters(self):
        for runs in [[("u", 39)], [("l", 39), ("u", 39 * FAR)], [("u", 39), ("l", 78)]]:
            never = [letter for letter in range(40) if letter not in ([39] if len(runs) == 1 else [0, 39])]
            self.assert_told(never, never_winning, TURNED_40, runs)


class RunsFromTest(Case):
    def test_written_out(self):
        for order, table, expected in [
            ([1, 0], [[1, 1], [2, 3]], [("u", 2), ("l", 1)]), ([1, 0], [[1, 0], [0, 1]], []),
            ([1, 0], [[1, 1], [1, 1]], None),
            (TURNED, [[1, 0, 0], [0, 1, 0], [1, 0, 1]], [("u", 1)]), ([1, 0], [[0, 1], [1, 0]], None),
            ([1, 0], [[0, 0], [0, 1]], None), ([1, 0], [[0, 0], [0, 0]], None), ([1, 0], [[2, 0], [0, 1]], None),
            ([1, 0], [[1, FAR], [0, 1]], [("l", FAR)]), ([1, 0], [[2, 1], [1, 1]], [("l", 1), ("u", 1)]),
            (TURNED, [[1, 0, 0], [0, 0, 1], [0, 1, 0]], None), (TURNED, [[1, 1, 0], [0, 0, 1], [0, 1, 0]], [("l", 1)]),
            ([1, 0], [[3, 2], [2, 1]], None), ([1, 0], [[1, 1], [1, 2]], [("u", 1), ("l", 1)]),
        ]:
            self.assert_told(expected, runs_from, order, table)

    def test_tables_of_runs(self):
        for order, runs in orders_with_runs():
            self.assertEqual(repr(runs), repr(self.told(runs_from, order, runs_table(order, runs))))

    def test_tables_of_long_runs(self):
        for order in some_orders([2, 3, 9, 40], 1):
            for runs in LONG_RUNS:
                self.assertEqual(repr(runs), repr(self.told(runs_from, order, runs_table(order, runs))))

    def assert_of_runs_alone(self, order, table):
        """Demand that the runs that are told, if any, have the table, and that None is told for good reason."""
        told = self.told(runs_from, order, table)
        lengths = [sum(row) for row in table]
        runs = runs_of(order, lengths) if min(lengths) > 0 else None
        if runs is not None and runs_table(order, runs) == table:
            self.assertEqual(runs, told)
        else:
            self.assertIs(None, told)
        return told

    def test_bent_tables(self):
        told = []
        for order, runs in orders_with_runs():
            table = runs_table(order, runs)
            for x in range(len(order)):
                for y in range(0, len(order), 2):
                    for more in [1, -1]:
                        bent = [list(row) for row in table]
                        bent[x][y] = max(bent[x][y] + more, 0)
                        if bent != table:
                            told.append(self.assert_of_runs_alone(order, bent))
            for x in range(1, len(order)):
                bent = [table[x]] + table[1:x] + [table[0]] + table[x + 1:]
                told.append(self.assert_of_runs_alone(order, [list(row) for row in bent]))
        self.assertGreater(told.count(None), 500)

    def test_tables_of_other_orders(self):
        for order, runs in orders_with_runs():
            other = order[::-1]
            if runs and other in SMALL and other != order:
                self.assert_of_runs_alone(other, runs_table(order, runs))

    def test_drawn_tables(self):
        for at, order in enumerate(SMALL):
            for most in [2, 4]:
                table = some_lengths([len(order)] * len(order), most, at)
                self.assert_of_runs_alone(order, [[item - 1 for item in row] for row in table])

    def test_all_small_tables_of_two_letters(self):
        # Of these counts just the tables with the determinant 1 are tables of runs.
        for one in range(5):
            for other in range(5):
                for third in range(5):
                    for fourth in range(5):
                        told = runs_from([1, 0], [[one, other], [third, fourth]])
                        self.assertIs(one * fourth - other * third == 1, told is not None)

    def test_unlike_runs_have_unlike_tables(self):
        for order in all_orders(4)[::4]:
            words = [runs_of_word(some_word(length, seed)) for length in range(8) for seed in range(4)]
            tables = {repr(runs_table(order, runs)): repr(runs) for runs in words}
            self.assertEqual(len({repr(runs) for runs in words}), len(tables))

    def test_a_new_list(self):
        self.assert_new_lists(runs_from, [1, 0], [[1, 0], [0, 1]])
        self.assert_new_lists(runs_from, [1, 0], [[1, 1], [2, 3]])

    def test_lengths_of_large_lines(self):
        for order, lengths in large_lines()[::5]:
            runs = runs_of(order, lengths)[:600]
            self.assertEqual(runs, runs_from(order, runs_table(order, runs)))
        for order, lengths in small_lines()[::7]:
            runs = runs_of(order, lengths)
            self.assertEqual(runs, runs_from(order, runs_table(order, runs)))


class RefusedTest(Case):
    def test_orders(self):
        for value in NOT_ORDERS:
            self.assert_refused(InvalidOrder, value, signed_crossings, value)
            for function, more in [
                (runs_table, [[]]), (lengths_ahead, [[], [1, 1, 1]]), (times_of, [[]]), (never_winning, [[("u", 2)]]),
                (positive_power, [[("u", 2)]]), (runs_from, [units(3)]),
            ]:
                self.assert_refused(InvalidOrder, value, function, value, *more)
                self.assert_refused(InvalidOrder, value, function, value, *[None] * len(more))

    def test_runs(self):
        for value in NOT_RUNS:
            for function in [runs_table, times_of, never_winning, positive_power]:
                self.assert_refused(InvalidRun, value, function, TURNED, value)
            self.assert_refused(InvalidRun, value, lengths_ahead, TURNED, value, [1, 1, 1])
            self.assert_refused(InvalidRun, value, lengths_ahead, TURNED, value, None)

    def test_lengths(self):
        for value in NOT_LENGTHS:
            self.assert_refused(InvalidLengths, value, lengths_ahead, TURNED, [], value)
            self.assert_refused(InvalidLengths, value, lengths_ahead, TURNED, [("u", 3)], value)

    def test_tables(self):
        for value in NOT_TABLES:
            self.assert_refused(InvalidTable, value, runs_from, [1, 0], value)
        for value in [units(39), units(41), units(40)[:39] + [[0] * 39], units(40)[:39] + [[True] * 40], units(3)]:
            self.assert_refused(InvalidTable, value, runs_from, TURNED_40, value)


if __name__ == "__main__":
    unittest.main()
