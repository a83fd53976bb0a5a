"""Pages and tables for the tests, wrong values, and the definitions of the document worked out by trying everything."""

from itertools import combinations, permutations, product

PAGE = (("ann", "oslo", "1"), (None, None, "2"), (None, None, "3"), (None, "rome", "1"), ("bob", "rome", "1"))
TABLE = (("ann", "oslo", "1"), ("ann", "oslo", "2"), ("ann", "oslo", "3"), ("ann", "rome", "1"), ("bob", "rome", "1"))

# Values that no parameter takes, whatever it asks for.
STRANGE = (None, "", "a", b"a", b"", "0", [], {}, {0: 1}, {0}, frozenset(), object(), int, len, range(2), ((((),),),))

# Values that are neither pages nor tables.
NO_ROWS = STRANGE + (
    0, 1, -1, True, False, 10 ** 99, (),
    [("a",)], (["a"],), (("a",), ["a"]), [["a"]], ("a",), ("a", "b"), (0,), (None,), ({},), (("a",), None),
    ((),), ((), ()), (("a",), ()),
    (("a", "b", "c", "d", "e", "f", "g"),), (("a",) * 6, ("a",) * 7),
    (("a",),) * 61, (("a", "b"),) + ((None, "b"),) * 60,
    (("",),), (("a", ""),), (("a" * 9,),), (("a", "b" * 9),), (("a" * 4000,),),
    (("A",),), (("a b",),), ((" a",),), (("a\n",),), (("a-b",),), (("a_b",),), (("a,b",),), (("~",),),
    (("\u00e9",),), (("\u0661",),), (("\u00b2",),), (("\uff41",),), (("`",),), (("{",),), (("/",),), ((":",),), (("@",),),
    ((0,),), ((1,),), ((True,),), (("a", False),), ((b"a",),), (("a", b"b"),), ((("a",),),), ((["a"],),), (({},),),
    (("a", None),), (("a", "b"), ("a", None)), (("a", "b", "c"), ("a", None, "c")), (("a", "b", "c"), (None, "b", None)),
    ((None,),), ((None, None),), ((None, "a"),), ((None, "a"), ("b", "c")), ((None, None), ("b", "c")),
    (("a", "b"), ("a",)), (("a",), ("a", "b")), (("a", "b"), (None,)), (("a",), (None, None)), (("a", "b"), (None, "b", "c")),
    ((None, None), ("a",)),
)

# Pages with blanks: no tables.
WITH_BLANKS = (
    PAGE,
    (("a",), (None,)),
    (("a", "b"), (None, "c")),
    (("a", "b"), (None, None)),
    (("a",) * 6,) + ((None,) * 6,) * 59,
    (("a", "b"),) + (("a", "c"),) * 58 + ((None, "d"),),
)

# Tables, which are pages too.
WITHOUT_BLANKS = (
    TABLE,
    (("a",),),
    (("0",), ("9",), ("z",)),
    (("abcdefgh", "ijklmnop", "qrstuvwx", "yz012345", "6789", "a"),),
    (("12345678",),) * 60,
    (("a", "b", "c", "d", "e", "f"),) * 60,
)

NO_NUMBERS = STRANGE + (True, False, -1, -10 ** 99, (), (0,), [0], "1", "zero")

# No orders of a page of five rows.
NO_ORDERS = STRANGE + (
    0, 1, True, False, 10 ** 99, (), (0,), (0, 1, 2, 3), (0, 1, 2, 3, 4, 5), (0, 1, 2, 3, 3), (0, 0, 0, 0, 0),
    (1, 2, 3, 4, 5), (-1, 0, 1, 2, 3), (0, 1, 2, 3, -1), (0, 1, 2, 3, 10 ** 99), (False, 1, 2, 3, 4), (0, True, 2, 3, 4),
    (0, 1, 2, 3, "4"), (0, 1, 2, 3, None), (0, 1, 2, 3, (4,)), (0, 1, 2, 3, [4]), (0, 1, 2, 3, {}), ((0, 1, 2, 3, 4),),
    [0, 1, 2, 3, 4], ["0", "1"], "01234", b"01234", range(5), {0: 1, 1: 2, 2: 3, 3: 4, 4: 5}, {0, 1, 2, 3, 4},
)

# No stays of a page of five rows.
NO_STAYS = STRANGE + (
    0, 1, True, False, 10 ** 99, (), (5,), (-1,), (0, 5), (-1, 0), (0, 10 ** 99), (-10 ** 99, 4), (1, 0), (0, 0), (3, 3),
    (0, 1, 1), (0, 2, 1), (4, 3, 2, 1, 0), (0, 1, 2, 3, 4, 4), (0, 1, 2, 3, 4, 5), (0,) * 300,
    (True,), (False,), (0, True), (False, 1), (0, 1, True), ("0",), ("",), (0, "1"), (None,), (0, None), ((0,),), ([0],),
    (0, [1]), (0, {}), (b"0",), [0], [0, 1, 2, 3, 4], "01", b"01", range(1, 3), {0: 1}, {0, 1}, {0},
)


# No printed rows of two cells.
NO_CELLS = STRANGE + (
    0, 1, True, False, 10 ** 99, (), ("a",), (None,), ("a", "b", "c"), (None, "a", "b"), (None,) * 3, (None,) * 300,
    ("a",) * 6, ("a",) * 7, ["a", "b"], [None, "b"], [None, None], "ab", "a,b", b"ab", {"a": 1, "b": 2}, (("a", "b"),),
    ("a", None), ("", "b"), ("a", ""), (None, ""), ("A", "b"), ("a", "B"), ("a", "b" * 9), ("a" * 9, "b"), ("a", " "),
    ("a", "b\n"), ("a", "?"), ("?", "a"), ("a", ","), ("a", 1), (0, "a"), (None, 0), (None, True), (None, False),
    (False, "a"), ("a", b"b"), ("a", ("b",)), ("a", ["b"]), ("a", {}), ("\u0661", "a"), (None, "\u00e9"),
)

# Printed rows, as many as make a page or fewer, of which the first one has blanks: no pages.
BLANKS_FIRST = (
    ((None,),), ((None,), ("a",)), ((None, "a"),), ((None, None),), ((None, None), (None, "b"), ("c", "d")),
    ((None,) * 6,), ((None,) * 6,) * 60, ((None, None, "z"),) + (("a", "b", "c"),) * 59,
)


def no_numbers_of(number):
    """Values that are no numbers of so many rows, places or columns."""
    return NO_NUMBERS + (number, number + 1, 60, 10 ** 40, 10 ** 99, slice(0, 1), str(number - 1), (number - 1,))


def meaning(rows):
    """What rows mean: each cell is the nearest printed one in its column, itself or above; None if there is none."""
    return [tuple(nearest(rows, row, column) for column in range(len(rows[row]))) for row in range(len(rows))]


def nearest(rows, row, column):
    while row >= 0:
        if rows[row][column] is not None:
            return rows[row][column]
        row -= 1
    return None


def blank_counts(page):
    return [row.count(None) for row in page]


def common(one, other):
    return max(many for many in range(len(one) + 1) if one[:many] == other[:many])


def tables_of(rows, many):
    """All tables of so many of the given full rows."""
    return list(product(rows, repeat=many))


def pages_meaning(table):
    """All pages that mean a table, by the lists of their numbers of blanks, found by trying all numbers."""
    width = len(table[0])
    found = []
    for counts in product(range(width + 1), repeat=len(table)):
        page = tuple((None,) * many + row[many:] for many, row in zip(counts, table))
        if counts[0] == 0 and meaning(page) == list(table):
            found.append(page)
    return found


def small_tables():
    """All small tables of some kinds, with equal rows too."""
    pairs = list(product("ab", repeat=2))
    tables = [table for many in (1, 2, 3, 4) for table in tables_of(pairs, many)]
    tables += [table for many in (1, 2, 3, 4, 5) for table in tables_of([("a",), ("b",)], many)]
    tables += tables_of([("a", "x", "1"), ("a", "x", "2"), ("a", "y", "1"), ("b", "x", "1")], 3)
    return tables


def small_pages():
    """All pages that mean the small tables, and some of five and six rows."""
    larger = (PAGE, PAGE + ((None, None, None),), PAGE[:4] + ((None, None, "2"), ("ann", "oslo", "1")))
    return [page for table in small_tables() for page in pages_meaning(table)] + list(larger)


def keeping_orders(page):
    """All orders that keep a page, by reading the rows anew in every order."""
    table = meaning(page)
    found = []
    for order in permutations(range(len(page))):
        read = meaning([page[row] for row in order])
        if all(read[place] == table[row] for place, row in enumerate(order)):
            found.append(order)
    return found


def sequence(page):
    return sorted(range(len(page)), key=lambda row: (blank_counts(page)[row], row))


def hosts(page, row):
    ahead = sequence(page)[:sequence(page).index(row)]
    blanks = blank_counts(page)[row]
    if blanks == 0:
        return [None] + ahead
    table = meaning(page)
    return [other for other in ahead if common(table[other], table[row]) >= blanks]


def code(page, order):
    """The code of an order, row by row in the sequence, with the rows behind left out."""
    found = []
    for row in sequence(page):
        behind = sequence(page)[sequence(page).index(row) + 1:]
        left = [None] + [other for other in order if other not in behind]
        found.append(hosts(page, row).index(left[left.index(row) - 1]))
    return found


def long_page():
    """A page of 60 rows with equal rows, all-blank rows, and rows that have fewer blanks than they could."""
    rows = [("n" + str(k // 20), "c" + str(k // 7), "p" + str(k // 3), "q" + str(k // 2)) for k in range(60)]
    page = [rows[0]]
    for k in range(1, 60):
        most = common(rows[k - 1], rows[k])
        blanks = most if k in (1, 3, 59) else most * (k * 7 + 3) // 11 % (most + 1)
        page.append((None,) * blanks + rows[k][blanks:])
    return tuple(page)


def long_table():
    """A table of 60 rows with equal rows and common beginnings of each length, none of which stand together."""
    rows = meaning(long_page())
    return tuple(rows[(row * 7 + 3) % 60] for row in range(60))


def beginnings(table):
    found = []
    for row in table:
        for many in range(len(row)):
            if row[:many + 1] not in found:
                found.append(row[:many + 1])
    return sorted(found)


def stand_together(table, order):
    """Whether the rows with each beginning have places without a gap in an order."""
    for beginning in beginnings(table):
        places = [place for place, row in enumerate(order) if table[row][:len(beginning)] == beginning]
        if places != list(range(places[0], places[0] + len(places))):
            return False
    return True


def grouped_orders(table):
    """All grouped orders in ascending order, by trying every order."""
    return [order for order in permutations(range(len(table))) if stand_together(table, order)]


def ways_to_write(page, order):
    """The rows of a page in an order with some of the last blanks of each row written, in all ways that are right.

    A list of tuples: the list of the numbers of cells that are written, and the page.
    """
    table = meaning(page)
    blanks = blank_counts(page)
    found = []
    for counts in product(*[range(blanks[row] + 1) for row in order]):
        rows = [page[row][:blanks[row] - many] + table[row][blanks[row] - many:] for row, many in zip(order, counts)]
        if meaning(rows) == [table[row] for row in order]:
            found.append((list(counts), tuple(rows)))
    return found


def all_stays(many):
    """All stays of a page of so many rows, in ascending order."""
    return sorted(stays for size in range(1, many + 1) for stays in combinations(range(many), size))


def safe_stays(page):
    """All safe stays in ascending order, by reading every set of rows."""
    table = meaning(page)
    return [stays for stays in all_stays(len(page))
            if meaning([page[row] for row in stays]) == [table[row] for row in stays]]
