"""A second reading of hunts, by the promises' own words and without any haste."""

from itertools import combinations

from helpers import chances, put_all, putting, web


class PlainHunt:
    """What is known ahead of the first question: told patches, a bad set, good ones and pairs."""

    def __init__(self, told, bad, goods, pairs):
        self.knows = {name: list(knows) for name, knows, _ in told}
        self.pairs = pairs
        self.bad = set(bad)
        self.candidates = sorted(self.bad.difference(*goods))
        self.leads = {name: self.lead([name]) for name in self.knows}
        self.classes = []
        for name in self.candidates:
            if not any(name in names for names in self.classes):
                self.classes.append([other for other in self.candidates
                                     if other in self.leads[name] and name in self.leads[other]])

    def lead(self, names):
        found = set(names)
        while True:
            more = {known for name in found for known in self.knows[name]}
            more |= {mender for broken, mender in self.pairs if broken in found}
            if more <= found:
                return found
            found |= more

    def is_open(self, names):
        return self.lead(names) == set(names)

    def question(self, left):
        """The names that are asked where these classes are left, and those of them that are in it."""
        taken = []
        while len(taken) < (len(left) + 1) // 2:
            free = [names for names in left if names not in taken and all(
                other in taken for other in left if other != names and other[0] in self.leads[names[0]])]
            taken.append(min(free))
        return sorted(self.lead([name for names in taken for name in names])), taken

    def tree(self, left):
        if len(left) == 1:
            return ("found", tuple(left[0]))
        names, taken = self.question(left)
        return ("ask", tuple(names), self.tree([names for names in left if names in taken]),
                self.tree([names for names in left if names not in taken]))

    def paper(self):
        return (least_power(len(self.classes)), len(self.classes), self.tree(self.classes))

    def all_open(self):
        """All open sets."""
        names = sorted(self.knows)
        return [some for many in range(len(names) + 1) for some in combinations(names, many) if self.is_open(some)]


def least_power(many):
    """The least k with 2 ** k no less than a number."""
    k = 0
    while 2 ** k < many:
        k += 1
    return k


def told(store):
    return [store.patch_of(name).told() for name in store.names()]


def hunt_web(seed, many=12):
    """A store, a bad set, good sets and pairs, such as a hunt lets by; told by a PlainHunt, too."""
    some = chances(seed * 5 + 2)
    made = web(seed, many)
    store = put_all([putting(name, knows) for name, knows in made.items()])
    names = list(made)
    pairs = []
    for _ in range((0, 1, 3, 5)[seed % 4]):
        pair = (names[next(some) % many], names[next(some) % many])
        pairs += [pair] if pair[0] != pair[1] else []
    plain = PlainHunt(told(store), names, [], pairs)
    bad = sorted(plain.lead([names[next(some) % many] for _ in range(2 + seed % 4)])) if seed % 3 else sorted(names)
    goods = []
    for _ in range(seed % 3):
        good = plain.lead([names[next(some) % many]])
        goods += [sorted(good)] if not set(bad) <= good.union(*goods) else []
    return store, bad, goods, pairs, PlainHunt(told(store), bad, goods, pairs)
