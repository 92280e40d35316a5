"""Tables that are kept while the string and the rules are changed: rows are made anew only where they are touched."""

from pairfolds.bounds import least_way, rows_in_turn, ways_of, whole_row
from pairfolds.errors import NoPlace, NoString
from pairfolds.rules import is_whole, pair_worth, rules_of
from pairfolds.strings import need_string, text_of


class Keep:
    """Rules, a string, and the rows that were made for its least worth and still stand."""

    def __init__(self, rules, string=""):
        need_string(rules, string)
        self.told = rules
        self.text = string
        # The worths of the rows that stand, by their calls (kind, i, j); each stands with all rows of its ways.
        self.kept = {}
        self.many = 0

    def rules(self):
        return self.told

    def string(self):
        return self.text

    def __len__(self):
        return len(self.text)

    def __eq__(self, other):
        return isinstance(other, Keep) and self.told == other.told and self.text == other.text

    def made(self):
        """How many rows were made so far."""
        return self.many

    def rows(self):
        """The rows that are kept, as tuples (kind, i, j, worth), rising by (kind, i, j)."""
        return [row + (self.kept[row],) for row in sorted(self.kept)]

    def least(self):
        """The least worth of the string; the rows that are not kept are made."""
        ways = self.missing_ways()
        for row in rows_in_turn(len(self.text)):
            if row in ways:
                self.kept[row] = least_way(ways[row], self.kept)
        self.many += len(ways)
        return self.kept[whole_row(self.text)]

    def missing_ways(self):
        """The ways of all rows that are not kept but needed for the least worth, by their calls."""
        ways = {}
        waiting = [whole_row(self.text)]
        while waiting:
            row = waiting.pop()
            if row not in ways and row not in self.kept:
                ways[row] = ways_of(self.told, self.text, row)
                waiting.extend([part for worth, parts in ways[row] for part in parts])
        return ways

    def need_letter(self, letter):
        if not isinstance(letter, str) or len(letter) != 1:
            raise NoString("no letter of the rules")
        need_string(self.told, letter)

    def let_go(self, p, q):
        """Let go all rows whose places hold both p and q."""
        self.kept = {row: self.kept[row] for row in self.kept if not (row[1] <= p and q <= row[2])}

    def move(self, by):
        """Call all rows by numbers so much greater; those that would begin ahead of the first place go."""
        moved = [((kind, i + by, j + by), self.kept[kind, i, j]) for kind, i, j in self.kept]
        self.kept = {row: worth for row, worth in moved if row[1] >= 0}

    def let_go_from(self, j):
        """Let go all open rows, and all whose places go as far as j."""
        self.kept = {row: self.kept[row] for row in self.kept if row[0] != "open" and row[2] < j}

    def letter(self, place, letter):
        """Change the letter at a place."""
        if not is_whole(place) or not 0 <= place < len(self.text):
            raise NoPlace(place)
        self.need_letter(letter)
        if letter != self.text[place]:
            self.text = self.text[:place] + letter + self.text[place + 1:]
            self.let_go(place, place)

    def put(self, letter, *, at_end=True):
        """Put a letter in at the end, or at the beginning."""
        self.need_letter(letter)
        after = self.text + letter if at_end else letter + self.text
        need_string(self.told, after)
        if at_end:
            self.let_go_from(len(self.text))
        else:
            self.move(1)
        self.text = after

    def take(self, *, at_end=True):
        """Take the last letter away, or the first one."""
        if not self.text:
            raise NoPlace(None)
        if at_end:
            self.text = self.text[:-1]
            self.let_go_from(len(self.text))
        else:
            self.text = self.text[1:]
            self.move(-1)

    def change(self, *, pairs=None, loops=None, stacks=None):
        """Change parts of the rules; a part that is None stays."""
        before = self.told
        letters, told_pairs, span, told_loops, told_stacks = before
        self.told = rules_of(
            letters, pairs=told_pairs if pairs is None else pairs, span=span,
            loops=told_loops if loops is None else loops, stacks=told_stacks if stacks is None else stacks,
        )
        if self.told[3:] != before[3:]:
            self.kept = {}
        for q in range(len(self.text)):
            for p in range(q):
                both = text_of(self.text, (p, q))
                if pair_worth(self.told, both) != pair_worth(before, both):
                    self.let_go(p, q)
