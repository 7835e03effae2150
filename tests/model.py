"""What the document tells, done slowly as it words it, and orders and lengths to try it on."""

import random
from fractions import Fraction
from itertools import combinations, groupby, permutations


def falls_apart(row):
    """Tell whether some first letters are just the least ones."""
    return any(set(row[:k]) == set(range(k)) for k in range(1, len(row)))


def all_orders(size):
    """List all orders of a size by trying all rows."""
    return [list(row) for row in permutations(range(size)) if not falls_apart(row)]


def some_orders(sizes, many):
    """List some orders of each size, the same ones at each call."""
    source = random.Random(2026)
    found = []
    for size in sizes:
        wanted = len(found) + many
        while len(found) < wanted:
            row = list(range(size))
            source.shuffle(row)
            if not falls_apart(row):
                found.append(row)
    return found


def some_word(length, seed):
    """Make a word of a length, the same one at each call."""
    source = random.Random(seed)
    return "".join(source.choice("ul") for _ in range(length))


def named_anew(upper, lower):
    """Give the letters of two rows the names 0, 1, .. along the upper one; tell the lower one."""
    names = {letter: name for name, letter in enumerate(upper)}
    return [names[letter] for letter in lower]


def deed_by_rows(order, deed):
    """Do a deed as the document words it."""
    upper, lower = list(range(len(order))), list(order)
    if deed == "u":
        moved = lower.pop()
        lower.insert(lower.index(upper[-1]) + 1, moved)
    else:
        moved = upper.pop()
        upper.insert(upper.index(lower[-1]) + 1, moved)
    return named_anew(upper, lower)


def mirrored_by_rows(order):
    """Read both rows from behind."""
    return named_anew(list(range(len(order)))[::-1], order[::-1])


def exchanged_by_rows(order):
    """Write the lower row above and the upper one below."""
    return named_anew(order, list(range(len(order))))


def gap_by_rows(order, gap):
    """Find the gap that a gap leads to as the document words it."""
    size, at = len(order), order.index(gap)
    if at == 0:
        return 0
    behind = order[at - 1] + 1
    return behind if behind < size else order[-1] + 1


def rings_by_gaps(order):
    """Follow each gap until it comes again; list the rings from their least gaps on, in order."""
    rings = []
    for gap in range(len(order)):
        ring = [gap]
        while gap_by_rows(order, ring[-1]) != gap:
            ring.append(gap_by_rows(order, ring[-1]))
        if min(ring) == gap:
            rings.append(ring)
    return rings


def sizes_by_gaps(order):
    """Count the gaps other than 0 of each corner; tell the sizes, in order, and the marked one."""
    counted = [len([gap for gap in ring if gap != 0]) for ring in rings_by_gaps(order)]
    return sorted(counted), counted[0]


def struck_by_rows(order, letter):
    """Take a letter away from both rows."""
    upper = [other for other in range(len(order)) if other != letter]
    return named_anew(upper, [other for other in order if other != letter])


def left_by_rows(order, deed):
    """Do a deed at the other end of both rows."""
    return mirrored_by_rows(deed_by_rows(mirrored_by_rows(order), deed))


def lone_by_rows(order):
    """List the gaps but 0 that lead to themselves."""
    return [gap for gap in range(1, len(order)) if gap_by_rows(order, gap) == gap]


def walk_by_words(order):
    """Walk to the core as the document words it; tell the steps and what is left."""
    steps = []
    while True:
        lone, (listed, marked) = lone_by_rows(order), sizes_by_gaps(order)
        if lone and len(order) >= 3:
            steps.append(("out", lone[0]))
            order = struck_by_rows(order, lone[0])
        elif marked == 1 and max(listed) > 1:
            deed = "u" if sizes_by_gaps(left_by_rows(order, "u"))[1] != marked else "l"
            steps.append(("left", deed))
            order = left_by_rows(order, deed)
        else:
            return steps, order


def corner_sets_of(order):
    """Tell the corners as sets of gaps, whatever they begin with."""
    return {frozenset(ring) for ring in rings_by_gaps(order)}


def cross(order, x, y):
    """Tell whether two letters cross."""
    return x != y and (order.index(x) > order.index(y)) == (x < y)


def form_by_pairs(order, letters):
    """Count the letters of a set and its pairs that cross."""
    return (len(letters) + sum(cross(order, x, y) for x in letters for y in letters if x < y)) % 2


def meets_by_pairs(order, one, other):
    """Count the pairs of a letter of each set that cross."""
    return sum(cross(order, x, y) for x in one for y in other) % 2


def all_sets(size):
    """List all sets of letters of a size, in order."""
    return sorted(list(letters) for many in range(size + 1) for letters in combinations(range(size), many))


def in_just_one(one, other):
    """List the letters that are in just one of two sets."""
    return sorted(set(one) ^ set(other))


def combined(sets):
    """List the letters that are in an odd number of sets."""
    letters = []
    for one in sets:
        letters = in_just_one(letters, one)
    return letters


def drawn_sets(size, many, seed):
    """List some sets of letters of a size, the same ones at each call."""
    source = random.Random(seed)
    return [[letter for letter in range(size) if source.random() < 0.5] for _ in range(many)]


def quick_deed(order, deed):
    """Do a deed at an order that is a tuple."""
    greatest, last = len(order) - 1, order[-1]
    if deed == "u":
        behind = order.index(greatest) + 1
        return order[:behind] + (last,) + order[behind:-1]
    return tuple(last + 1 if letter == greatest else letter + (letter > last) for letter in order)


def reached(order):
    """Tell for each order to which words lead, as a tuple, the first of the shortest words that do it."""
    words = {tuple(order): ""}
    latest = [tuple(order)]
    while latest:
        behind = []
        for row in latest:
            for deed in "lu":
                further = quick_deed(row, deed)
                if further not in words:
                    words[further] = words[row] + deed
                    behind.append(further)
        latest = behind
    return words


def first_words(order):
    """Go through the words by length and in order; tell for each order, as a tuple, the first word that leads there."""
    found, latest, more = {}, [("", tuple(order))], True
    while more:
        more = False
        for word, row in latest:
            if row not in found:
                found[row], more = word, True
        latest = [(word + deed, quick_deed(row, deed)) for word, row in latest for deed in "lu"]
    return found


def quick_led(order, word):
    """Do the deeds of a word at an order that is a tuple."""
    for deed in word:
        order = quick_deed(order, deed)
    return order


def cells_by_rows(order, lengths):
    """Write both rows out cell by cell; list to which cell each cell is led, and on which letter it lies."""
    upper = [(letter, number) for letter in range(len(order)) for number in range(lengths[letter])]
    lower = [(letter, number) for letter in order for number in range(lengths[letter])]
    places = {cell: place for place, cell in enumerate(lower)}
    return [places[cell] for cell in upper], [letter for letter, _ in upper]


def rounds_by_walking(order, lengths):
    """List all rounds, each from its least cell on, as the exchange leads its cells."""
    led_to, _ = cells_by_rows(order, lengths)
    found, seen = [], set()
    for cell in range(len(led_to)):
        ring = []
        while cell not in seen:
            seen.add(cell)
            ring.append(cell)
            cell = led_to[cell]
        if ring:
            found.append(ring)
    return found


def some_lengths(sizes, most, seed):
    """List some lengths for orders, the same ones at each call."""
    source = random.Random(seed)
    return [[source.randint(1, most) for _ in range(size)] for size in sizes]


def small_lines():
    """List orders with lengths that are so small that all cells can be walked."""
    orders = [order for size in range(2, 6) for order in all_orders(size)]
    lines = list(zip(orders, some_lengths(map(len, orders), 4, 1)))
    lines += list(zip(orders, some_lengths(map(len, orders), 12, 2)))
    lines += [(order, [1] * len(order)) for order in orders] + [(order, [6] * len(order)) for order in orders]
    larger = some_orders([6, 7, 8, 10, 20, 40], 3)
    for most in [1, 2, 5]:
        lines += list(zip(larger, some_lengths(map(len, larger), most, 3)))
    return lines


def large_lines():
    """List orders with lengths of up to 30 figures."""
    lines = []
    for order in some_orders([2, 3, 5, 9, 39, 40], 1) + [list(range(39, -1, -1)), list(range(1, 40)) + [0]]:
        drawn = some_lengths([len(order)] * 2, 10 ** 30 - 1, len(order))
        bent = [10 ** (7 * letter % 30) + letter for letter in range(len(order))]
        lines += [(order, lengths) for lengths in drawn + [bent]]
    return lines


def deed_with_lengths(order, lengths, deed):
    """Do a deed at both written rows: the winner gets shorter by the loser; tell the order and the lengths behind."""
    upper, lower, left = list(range(len(order))), list(order), dict(enumerate(lengths))
    above, below = upper[-1], lower[-1]
    if deed == "u":
        left[above] -= left[below]
        lower.remove(below)
        lower.insert(lower.index(above) + 1, below)
    else:
        left[below] -= left[above]
        upper.remove(above)
        upper.insert(upper.index(below) + 1, above)
    return named_anew(upper, lower), [left[letter] for letter in upper]


def deeds_one_by_one(order, lengths):
    """Take deed behind deed until the lengths stand; tell all deeds, and the order and the lengths that stand."""
    word = ""
    while lengths[-1] != lengths[order[-1]]:
        deed = "u" if lengths[-1] > lengths[order[-1]] else "l"
        order, lengths = deed_with_lengths(order, lengths, deed)
        word += deed
    return word, order, lengths


def runs_of_word(word):
    """Put like deeds of a word that stand side by side together."""
    return [(deed, len(list(group))) for deed, group in groupby(word)]


def word_of_runs(runs):
    """Write all deeds of runs out."""
    return "".join(deed * times for deed, times in runs)


def some_runs(many, most, seed):
    """List some runs, the same ones at each call."""
    source = random.Random(seed)
    first = source.choice([0, 1])
    return [("ul"[(first + at) % 2], source.randint(1, most)) for at in range(many)]


def product_of(one, other):
    """Multiply two tables."""
    return [[sum(x * y for x, y in zip(row, column)) for column in zip(*other)] for row in one]


def units(size):
    """Tell the table of no deeds."""
    return [[int(x == y) for y in range(size)] for x in range(size)]


def table_of_deed(order, deed):
    """Tell how the lengths behind a deed count in those ahead, by what the deed makes of each length alone."""
    behind = [deed_with_lengths(order, lengths, deed)[1] for lengths in units(len(order))]
    # The lengths behind are these columns of those ahead; turned about, the deed makes one longer again.
    return inverse_of([list(row) for row in zip(*behind)])


def inverse_of(table):
    """Tell the table that undoes a table of a determinant of 1 or -1."""
    size = len(table)
    rows = [[Fraction(item) for item in row] + units(size)[at] for at, row in enumerate(table)]
    for at in range(size):
        pivot = next(row for row in rows[at:] if row[at] != 0)
        rows.remove(pivot)
        pivot = [item / pivot[at] for item in pivot]
        rows = [[item - row[at] * lead for item, lead in zip(row, pivot)] for row in rows]
        rows.insert(at, pivot)
    return [[int(item) for item in row[size:]] for row in rows]


def table_of_word(order, word):
    """Multiply the tables of the deeds of a word."""
    table = units(len(order))
    for deed in word:
        table = product_of(table, table_of_deed(order, deed))
        order = deed_by_rows(order, deed)
    return table


def determinant_of(table):
    """Tell the determinant of a table."""
    rows, told = [[Fraction(item) for item in row] for row in table], Fraction(1)
    while rows:
        at = next((at for at, row in enumerate(rows) if row[0] != 0), None)
        if at is None:
            return 0
        pivot = rows.pop(at)
        told *= pivot[0] * (-1) ** at
        rows = [[item - row[0] / pivot[0] * lead for item, lead in zip(row, pivot)][1:] for row in rows]
    return int(told)


def rank_of(lists):
    """Tell how many of some lists are independent."""
    rows, many = [[Fraction(item) for item in row] for row in lists], 0
    while rows and rows[0]:
        at = next((at for at, row in enumerate(rows) if row[0] != 0), None)
        if at is not None:
            pivot = rows.pop(at)
            many += 1
            rows = [[item - row[0] / pivot[0] * lead for item, lead in zip(row, pivot)] for row in rows]
        rows = [row[1:] for row in rows]
    return many


def sign_of_crossing(order, x, y):
    """Tell the item of the signed crossings for two letters."""
    if x < y and order.index(y) < order.index(x):
        return 1
    return -1 if y < x and order.index(x) < order.index(y) else 0


def grown_by_pairs(order):
    """Close the single letters by pairs of sets that meet once; list the sets in order."""
    found = {frozenset([letter]) for letter in range(len(order))}
    latest = set(found)
    while latest:
        behind = set()
        for one in latest:
            for other in found:
                if meets_by_pairs(order, one, other):
                    behind.add(one ^ other)
        latest = behind - found
        found |= latest
    return sorted(sorted(letters) for letters in found)
