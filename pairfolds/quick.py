"""A table of least worths that is made quickly, by the pairs alone that may stand.

It goes by the same kinds of rows as the tables of all ways, and leads back to the same folding, but no way is written
out. Worths of stretches within a loop are taken less what their places would come to if all of them were free: so a
free place adds nothing, and the least of all pairs within a loop is looked up, not looked for.
"""

# More than any sum of worths, so that what is not there is never the least.
NONE = 1000000000000


class QuickTable:
    """The least worths of all stretches of a string on which no pairs but the told ones may stand, with their worths.

    worths is a dict of worths by pairs (i, j), those with the same i rising.
    """

    def __init__(self, rules, string, worths):
        self.loops = rules[3]
        self.stacks = {outer + within: worth for outer, within, worth in rules[4]}
        self.text = string
        self.pairs = [{} for place in string]
        for i, j in worths:
            self.pairs[i][j] = worths[i, j]
        self.shut = [{} for place in string]
        blank = [NONE] * len(string)
        self.single = [blank for place in range(len(string) + 2)]
        self.one = list(self.single)
        self.two = list(self.single)
        self.opens = [0] * (len(string) + 1)
        for i in range(len(string) - 1, -1, -1):
            self.fill(i)

    def fill(self, i):
        """Make all that begins at i, by what begins behind it."""
        if not self.pairs[i]:
            self.single[i] = self.single[i + 1]
            self.one[i] = self.one[i + 1]
            self.two[i] = self.two[i + 1]
            self.opens[i] = self.opens[i + 1]
            return
        self.fill_shut(i)
        self.fill_open(i)
        # No loop has its places from the first one on.
        if i > 0:
            self.fill_single(i)
            self.fill_two(i)
            self.fill_one(i)

    def fill_shut(self, i):
        stacked, inner, inner_free, forked, branch, fork_free, lone, lone_free, outside = self.loops
        for k, worth in self.pairs[i].items():
            free = k - i - 1
            best = lone + lone_free * free
            if free > 1 and k - 1 in self.shut[i + 1]:
                best = min(best, self.stacked_worth(i, k))
            if free > 2:
                # All pairs within but the one that would be stacked.
                nearest = min(self.single[i + 1][k - 2], self.single[i + 2][k - 1])
                best = min(best, inner + inner_free * free + nearest)
            if free > 3:
                best = min(best, forked + fork_free * free + self.two[i + 1][k - 1])
            self.shut[i][k] = worth + best

    def stacked_worth(self, i, k):
        """What the loop of i, k comes to with the pair stacked within it."""
        worth = self.loops[0] + self.shut[i + 1][k - 1]
        if self.stacks:
            worth += self.stacks.get(self.text[i] + self.text[k] + self.text[i + 1] + self.text[k - 1], 0)
        return worth

    def fill_open(self, i):
        ways = [self.loops[8] + worth + self.opens[k + 1] for k, worth in self.shut[i].items()]
        self.opens[i] = min(self.opens[i + 1], min(ways))

    def lowest(self, i, worths, row):
        """The row that begins behind i with pairs at i added, each from its end on, where they are less."""
        made = list(row)
        low = NONE
        for j in range(i + 1, len(made)):
            if j in worths:
                low = min(low, worths[j])
            if low < made[j]:
                made[j] = low
        return made

    def fill_single(self, i):
        inner_free = self.loops[2]
        worths = {k: worth - inner_free * (k - i + 1) for k, worth in self.shut[i].items()}
        self.single[i] = self.lowest(i, worths, self.single[i + 1])

    def fill_two(self, i):
        made = list(self.two[i + 1])
        for k in self.shut[i]:
            branch = self.branch_worth(i, k)
            behind = self.one[k + 1]
            for j in range(k + 2, len(made)):
                if branch + behind[j] < made[j]:
                    made[j] = branch + behind[j]
        self.two[i] = made

    def fill_one(self, i):
        worths = {k: self.branch_worth(i, k) for k in self.shut[i]}
        alone = self.lowest(i, worths, self.one[i + 1])
        self.one[i] = [min(worth, more) for worth, more in zip(alone, self.two[i])]

    def branch_worth(self, i, k):
        return self.loops[4] + self.shut[i][k] - self.loops[5] * (k - i + 1)

    def whole(self):
        """The least worth of all foldings."""
        return self.opens[0]

    def folding(self):
        """A least folding: of ways that come to the same always the first one is gone."""
        found = []
        i = 0
        while i < len(self.text):
            if self.opens[i] == self.opens[i + 1]:
                i += 1
            else:
                due = self.opens[i] - self.loops[8]
                k = [k for k, worth in self.shut[i].items() if worth + self.opens[k + 1] == due][0]
                found += self.shut_pairs(i, k)
                i = k + 1
        return tuple(sorted(found))

    def shut_pairs(self, i, k):
        due = self.shut[i][k] - self.pairs[i][k]
        if due == self.loops[6] + self.loops[7] * (k - i - 1):
            return [(i, k)]
        for p in range(i + 1, k - 1):
            for q in self.shut[p]:
                if q < k and due == self.worth_with(i, k, p, q):
                    return [(i, k)] + self.shut_pairs(p, q)
        return [(i, k)] + self.two_pairs(i + 1, k - 1)

    def worth_with(self, i, k, p, q):
        """What the loop of i, k comes to with the pair p, q alone straight within."""
        if p == i + 1 and q == k - 1:
            return self.stacked_worth(i, k)
        return self.loops[1] + self.loops[2] * (k - i - 1 - (q - p + 1)) + self.shut[p][q]

    def two_pairs(self, i, j):
        due = self.two[i][j]
        at = i
        while self.two[at + 1][j] == due:
            at += 1
        return self.pairs_with_more(at, j, due)

    def one_pairs(self, i, j):
        due = self.one[i][j]
        at = i
        while self.one[at + 1][j] == due:
            at += 1
        for k in self.shut[at]:
            if k <= j and self.branch_worth(at, k) == due:
                return self.shut_pairs(at, k)
        return self.pairs_with_more(at, j, due)

    def pairs_with_more(self, i, j, due):
        """The pairs by a branch at i with at least one more behind it, up to j."""
        ends = [k for k in self.shut[i] if k < j and self.branch_worth(i, k) + self.one[k + 1][j] == due]
        return self.shut_pairs(i, ends[0]) + self.one_pairs(ends[0] + 1, j)
