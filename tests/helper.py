"""Rules to test with, things of all kinds, and a plain reckoning by lists of all foldings.

Nothing here goes by the package: what it tells is held against this.
"""

import copy
import inspect

NO_WORTHS = (0,) * 9

# Each worth is unlike the others, so that none can stand in for another one.
ODD = (
    "abc",
    (("aa", -3), ("ab", -17), ("ba", 5), ("cb", -29)),
    0,
    (-7, 11, 2, -13, -19, 1, 4, 3, -1),
    (("ab", "ab", -31), ("ab", "ba", 23), ("ba", "ab", -37), ("cb", "aa", 41)),
)
SPANNED = ("abc", (("ab", -20), ("ac", -9), ("bb", -11)), 1, (-5, 3, 1, 2, -6, 1, 7, -2, 3), (("ab", "ac", -8),))
WIDE = ("ab", (("ab", -8), ("ba", -9)), 3, (-1, -2, 3, 4, 5, 6, -7, 8, 9), (("ab", "ba", 10), ("ba", "ab", -11)))
ONE_LETTER = ("a", (("aa", -2),), 0, (-1, 1, 0, 3, -4, 1, 2, 0, -1), (("aa", "aa", -2),))
FORKING = ("ab", (("aa", 1), ("ab", 2)), 0, (9, 8, 7, -40, -25, -2, 1, 5, 6), ())
NO_PAIRS = ("ab", (), 0, (1, 2, 3, 4, 5, 6, 7, 8, 9), ())
DEAR = ("ab", (("ab", 99), ("ba", 98)), 0, (99, 98, 97, 96, 95, 94, 93, 92, 91), (("ab", "ba", 99),))
CHEAP = ("ab", (("ab", -99), ("ba", -98)), 0, (-99, -98, -97, -96, -95, -94, -93, -92, -91), (("ab", "ba", -99),))
ALL_RULES = (ODD, SPANNED, WIDE, ONE_LETTER, FORKING, NO_PAIRS, DEAR, CHEAP)

# Strings of eight and of ten letters, with the rules that they are of.
EIGHT = (
    (ODD, "abacbaab"), (ODD, "cccbaabb"), (SPANNED, "abacabcb"), (WIDE, "abababab"), (NO_PAIRS, "abababab"),
    (FORKING, "aababbbb"), (DEAR, "aabbabbb"), (CHEAP, "abababba"), (ONE_LETTER, "aaaaaaaa"),
)
TEN = (
    (ODD, "abacbaabcb"), (ODD, "cccbaabbaa"), (SPANNED, "abacabcbab"), (WIDE, "ababababab"), (NO_PAIRS, "ababababab"),
    (FORKING, "aababbbabb"), (DEAR, "aabbabbbab"), (CHEAP, "abababbaab"), (ONE_LETTER, "aaaaaaaaaa"),
)


def deep(times):
    thing = ()
    for at in range(times):
        thing = (thing,) if at < times // 2 else [thing]
    return thing


# Things of all kinds, none of which is a string, rules, a folding with pairs or a table.
WHATEVER = (
    None, True, False, -1, 0, 1, 10 ** 99, -10 ** 99, "Z", "?", " ", "(", "\u00e9", "ab\n", (None,), (True, False),
    ((0,),), ((0, 1, 2),), ([0, 1],), ({},), [], [()], [[]], [None], [("open", 0, -1)], {}, {"a": 1}, {0: [1]},
    {"letters": "a"}, deep(12), ["a"], ("a",), ("ab", 1), [0] * 4999, "z" * 4999, ((),),
)


def all_texts(letters, length):
    texts = [""]
    for turn in range(length):
        texts = [text + letter for text in texts for letter in letters]
    return texts


def some_texts(letters, length, many):
    """Texts that look mixed, the same ones each time."""
    texts = []
    seed = 12345
    for turn in range(many):
        text = ""
        for place in range(length):
            seed = (seed * 1103515245 + 12345) & 0x7FFFFFFF
            text += letters[(seed >> 16) % len(letters)]
        texts.append(text)
    return texts


def some_rules(draw, most_letters=6, worths=None):
    """Rules drawn by a source that tells the same each time, with worths from 1, 3 or 99 below 0 to as much above."""
    letters = "".join(sorted(draw.sample("abcdefgh", draw.randint(1, most_letters))))
    most = worths or draw.choice((1, 3, 99))

    def chosen(texts):
        return sorted(draw.sample(texts, min(len(texts), draw.randint(0, 12))))

    def worth():
        return draw.randint(-most, most)

    both = chosen([first + second for first in letters for second in letters])
    stacks = chosen([(outer, within) for outer in both for within in both])
    return (
        letters, tuple((text, worth()) for text in both), draw.choice((0, 0, 1, 2, 3)),
        tuple(worth() for word in range(9)), tuple((outer, within, worth()) for outer, within in stacks),
    )


def some_line(draw, letters, most):
    """A line of a program, drawn: mostly of strings, letters and numbers with which something can be done."""
    word = draw.choice(("string", "string", "letter", "least", "count", "worth", "has", "within"))
    number = draw.randint(0, most) if draw.random() < 0.9 else draw.randint(0, 99)
    if word == "string":
        length = draw.randint(0, most) if draw.random() < 0.9 else draw.randint(0, 40)
        return word, "".join(draw.choice(letters) for place in range(length))
    if word == "letter":
        return word, number, draw.choice(letters)
    if word == "worth":
        return word, "".join(draw.choice("(.)") for place in range(draw.randint(0, most)))
    if word == "has":
        return word, number, draw.randint(0, most)
    return (word, draw.choice((0, 1, 5, 30, 99))) if word == "within" else (word,)


def some_program(draw, letters="abz", most=8):
    return tuple(some_line(draw, letters, most) for line in range(draw.randint(0, 20)))


def strings_for(rules):
    """All strings of at most four letters, and some longer ones."""
    strings = [text for length in range(5) for text in all_texts(rules[0], length)]
    for length in (5, 6, 7):
        strings += some_texts(rules[0], length, 4)
    return strings


def can_pair(rules, string, i, j):
    return 0 <= i < j < len(string) and j - i - 1 >= rules[2] and string[i] + string[j] in dict(rules[1])


def every_folding(rules, string):
    """All foldings, rising: each set of pairs is put together and looked at pair by pair."""
    places = range(len(string))
    pairs = [(i, j) for i in places for j in places if can_pair(rules, string, i, j)]
    found = [()]
    for pair in pairs:
        found += [folding + (pair,) for folding in found if all(stands_with(pair, other) for other in folding)]
    return sorted(found)


def stands_with(pair, other):
    if set(pair) & set(other):
        return False
    (i, j), (p, q) = sorted((pair, other))
    return not i < p < j < q


def covers(pair, other):
    return pair[0] < other[0] and other[1] < pair[1]


def children(folding, pair):
    inside = [other for other in folding if pair is None or covers(pair, other)]
    return [other for other in inside if not any(covers(third, other) for third in inside)]


def plain_loop(rules, string, folding, pair):
    """(kind, free, worth) of the loop of a pair, place by place."""
    within = children(folding, pair)
    free = [
        place for place in range(pair[0] + 1, pair[1])
        if not any(p <= place <= q for p, q in within)
    ]
    stacked, inner, inner_free, forked, branch, fork_free, lone, lone_free, outside = rules[3]
    if not within:
        return "lone", len(free), lone + len(free) * lone_free
    if len(within) > 1:
        return "forked", len(free), forked + len(within) * branch + len(free) * fork_free
    if free:
        return "inner", len(free), inner + len(free) * inner_free
    texts = (string[pair[0]] + string[pair[1]], string[within[0][0]] + string[within[0][1]])
    told = {(outer, inside): worth for outer, inside, worth in rules[4]}
    return "stacked", 0, stacked + told.get(texts, 0)


def shut_worth(rules, string, folding):
    """The worth of all pairs and their loops, without open."""
    total = 0
    for i, j in folding:
        total += dict(rules[1])[string[i] + string[j]] + plain_loop(rules, string, folding, (i, j))[2]
    return total


def plain_worth(rules, string, folding):
    return shut_worth(rules, string, folding) + rules[3][8] * len(children(folding, None))


def listed_with_worths(rules, string):
    """All foldings in the order (worth, folding), as such tuples."""
    return sorted((plain_worth(rules, string, folding), folding) for folding in every_folding(rules, string))


def keeping(listed, holds):
    """Those of listed foldings with their worths that keep the holds."""
    free, pairs = holds
    return [
        (worth, folding) for worth, folding in listed
        if set(pairs) <= set(folding) and not any(place in free for pair in folding for place in pair)
    ]


def as_share(fraction):
    return fraction.numerator, fraction.denominator


def fork_worth(rules, string, folding):
    """The worth of a folding of a stretch that lies in a fork."""
    outermost = children(folding, None)
    free = len(string) - sum(j - i + 1 for i, j in outermost)
    return shut_worth(rules, string, folding) + len(outermost) * rules[3][4] + free * rules[3][5]


def least_or_none(worths):
    return min(worths) if worths else None


def plain_table(rules, string):
    """The table of point 7, each row by a list of all foldings of its places."""
    size = len(string)
    rows = []
    for i in range(size + 1):
        rest = string[i:]
        rows.append(("open", i, size - 1, min(plain_worth(rules, rest, f) for f in every_folding(rules, rest))))
        for j in range(i, size):
            part = string[i:j + 1]
            listed = every_folding(rules, part)
            forks = [(len(children(f, None)), fork_worth(rules, part, f)) for f in listed]
            rows.append(("one", i, j, least_or_none([worth for many, worth in forks if many >= 1])))
            rows.append(("two", i, j, least_or_none([worth for many, worth in forks if many >= 2])))
            if i < j:
                shuts = [shut_worth(rules, part, f) for f in listed if (0, j - i) in f]
                rows.append(("shut", i, j, least_or_none(shuts)))
    return sorted(rows, key=lambda row: row[:3])


def names_of(function):
    """The names of the arguments by place, and of those by name alone with what stands for them."""
    places, named = [], {}
    for name, argument in inspect.signature(function).parameters.items():
        if argument.kind == argument.KEYWORD_ONLY:
            named[name] = argument.default
        else:
            assert argument.kind == argument.POSITIONAL_OR_KEYWORD
            places.append(name if argument.default is argument.empty else f"{name}={argument.default!r}")
    return places, named


def ask_both_ways(test, function, **handed):
    """What is told by places, held against what is told by names; what is handed in stays as it was."""
    before = copy.deepcopy(handed)
    alone = names_of(function)[1]
    named = {name: handed[name] for name in handed if name in alone}
    told = function(*[handed[name] for name in handed if name not in alone], **named)
    test.assertEqual(told, function(**handed))
    test.assertEqual(repr(handed), repr(before))
    return told


def stays_as_told(test, function, *handed, **named):
    """That a told list may be changed without a change to what is told later."""
    told = function(*handed, **named)
    before = copy.deepcopy(told)
    test.assertIsInstance(told, list)
    told.append(None)
    told[0] = 5
    test.assertEqual(function(*handed, **named), before)


def kinds_in(thing):
    """The kinds of all things within, so that nothing but plain ones is let by."""
    found = {type(thing)}
    if isinstance(thing, (list, tuple)):
        for part in thing:
            found |= kinds_in(part)
    return found


def refuses_no_string(test, tell, error):
    """That what tells of (rules, string) refuses whatever is no string, by place and by name."""
    for thing in WHATEVER + ("abd", "a" * 13, ["a", "b"], ("a",), None, 5, [], (), "A"):
        with test.assertRaises(error):
            tell(ODD, thing)
    with test.assertRaises(error):
        tell(rules=ODD, string="xyz")


NO_WORTH = float("inf")


def plain_ways(rules, string, rows, row):
    """What each way of point 8 comes to by the rows, a dict of worths by (kind, i, j)."""
    kind, i, j = row
    stacked, inner, inner_free, forked, branch, fork_free, lone, lone_free, outside = rules[3]

    def told(name, p, q):
        worth = rows.get((name, p, q))
        return NO_WORTH if worth is None else worth

    if kind == "one":
        ways = [fork_free + told("one", i + 1, j)]
        ways += [branch + told("shut", i, k) + fork_free * (j - k) for k in range(i + 1, j + 1)]
        return ways + [branch + told("shut", i, k) + told("one", k + 1, j) for k in range(i + 1, j + 1)]
    if kind == "two":
        ways = [fork_free + told("two", i + 1, j)]
        return ways + [branch + told("shut", i, k) + told("one", k + 1, j) for k in range(i + 1, j + 1)]
    if kind == "open":
        if i == len(string):
            return [0]
        ways = [outside + told("shut", i, k) + told("open", k + 1, j) for k in range(i + 1, j + 1)]
        return ways + [told("open", i + 1, j)]
    if not can_pair(rules, string, i, j):
        return []
    stacks = {(outer, within): worth for outer, within, worth in rules[4]}
    ways = [lone + lone_free * (j - i - 1), forked + told("two", i + 1, j - 1)]
    for p in range(i + 1, j):
        for q in range(p + 1, j):
            free = p - i - 1 + j - q - 1
            stack = stacked + stacks.get((string[i] + string[j], string[p] + string[q]), 0)
            ways.append((inner + free * inner_free if free else stack) + told("shut", p, q))
    return [dict(rules[1])[string[i] + string[j]] + way for way in ways]


def all_rows(length):
    """All rows of point 7 by (kind, i, j), rising."""
    places = range(length)
    rows = [("shut", i, j) for i in places for j in places if i < j]
    rows += [(kind, i, j) for kind in ("one", "two") for i in places for j in places if i <= j]
    return sorted(rows + [("open", i, length - 1) for i in range(length + 1)])


def are_plain_bounds(rules, string, table):
    """Whether a list of all rows is bounds, each way looked at."""
    rows = {row[:3]: row[3] for row in table}
    for row in rows:
        worth = NO_WORTH if rows[row] is None else rows[row]
        if any(worth > way for way in plain_ways(rules, string, rows, row)):
            return False
    return True


def bounds_by(rules, string, chosen):
    """Bounds whose rows without a way have the chosen worths, in turn; the others are as great as they can be."""
    rows = {}
    left = list(chosen)
    for i in range(len(string), -1, -1):
        for row in sorted((row for row in all_rows(len(string)) if row[1] == i), key=in_turn):
            ways = plain_ways(rules, string, rows, row)
            least = min(ways, default=NO_WORTH)
            if least == NO_WORTH:
                left.append(left.pop(0))
                least = left[-1]
            rows[row] = least
    return [row + (rows[row],) for row in all_rows(len(string))]


def in_turn(row):
    return row[2], ("shut", "one", "two", "open").index(row[0])


def are_a_step_apart(folding, other):
    return len(set(folding) ^ set(other)) == 1


class Land:
    """All foldings of a string with their worths and steps, by lists alone."""

    def __init__(self, rules, string):
        self.rules, self.string = rules, string
        self.foldings = every_folding(rules, string)
        self.worths = {folding: plain_worth(rules, string, folding) for folding in self.foldings}
        self.steps = {
            folding: [other for other in self.foldings if are_a_step_apart(folding, other)] for folding in self.foldings
        }

    def reached(self, folding, height):
        """All foldings worth less than the height to which a way leads that has no other ones."""
        found = {folding} if self.worths[folding] < height else set()
        waiting = list(found)
        while waiting:
            for after in self.steps[waiting.pop()]:
                if after not in found and self.worths[after] < height:
                    found.add(after)
                    waiting.append(after)
        return found

    def lowest_ridge(self, folding, other):
        """The lowest height at which the two hang together, each height tried in turn."""
        for height in sorted(set(self.worths.values())):
            if other in self.reached(folding, height + 1):
                return height

    def is_wall(self, folding, other, height, thing):
        if not thing:
            return self.worths[folding] >= height
        members = set(thing)
        return (
            folding in members and other not in members and thing == sorted(members)
            and all(self.worths[member] < height for member in thing)
            and all(step in members or self.worths[step] >= height for member in thing for step in self.steps[member])
        )


def some_pairs(foldings, many):
    """Some (folding, other), the same ones each time, one with itself among them."""
    size = len(foldings)
    told = [(foldings[at * 7919 % size], foldings[(at * 104729 + size // 2) % size]) for at in range(many)]
    return told + [(foldings[-1], foldings[-1]), (foldings[0], foldings[-1]), (foldings[-1], foldings[0])]
