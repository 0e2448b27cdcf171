"""Clauses: which truths hold together, told exactly, by learning a new clause from each dead end.

Truths are numbered from 0 on. A literal is 2 * truth, or one more for its opposite; a clause is a list of literals
of which one holds. The first two literals of a clause are watched: only when one fails the clause is looked at.
"""

from heapq import heappop, heappush

# After so many dead ends, times a number of Luby's row, a search starts anew with what it has learned.
ROUND = 64
# Scores are made small again beyond this.
HIGH_SCORE = 1 << 80
LEAST_LEARNED = 2000


def luby(index):
    """The number with an index, from 1 on, of Luby's row: 1 1 2 1 1 2 4 1 1 2 ..."""
    size = 1
    while size < index + 1:
        size = 2 * size
    while size - 1 != index:
        size = size // 2
        if index >= size:
            index = index - size + 1
        while size // 2 >= index + 1:
            size = size // 2
    return size // 2


class Clauses:
    """Clauses that were added, what was learned from them, and a search through the truths.

    worths has for each literal 1 if it holds, -1 if it fails, 0 if that is open.
    """

    def __init__(self):
        self.worths = []
        self.watches = []
        self.levels = []
        self.reasons = []
        self.scores = []
        self.phases = []
        self.queued = []
        self.trail = []
        self.limits = []
        self.seen = 0
        self.queue = []
        self.gain = 1 << 20
        self.learned = []
        self.most_learned = LEAST_LEARNED
        self.is_lost = False

    def new_truth(self):
        """The number of a new truth."""
        self.worths.extend([0, 0])
        self.watches.extend([[], []])
        self.levels.append(0)
        self.reasons.append(None)
        self.scores.append(0)
        self.phases.append(1)
        self.queued.append(True)
        truth = len(self.levels) - 1
        heappush(self.queue, (0, truth))
        return truth

    def add(self, literals):
        """Adds a clause; nothing is decided at this moment."""
        if self.is_lost or [one for one in literals if self.worths[one] > 0 or one ^ 1 in literals]:
            return
        clause = [one for one in literals if self.worths[one] == 0]
        if not clause:
            self.is_lost = True
        elif len(clause) == 1:
            self.assign(clause[0], None)
            self.is_lost = self.propagate() is not None
        else:
            self.watch(clause)

    def watch(self, clause):
        """Watches the first two literals of a clause."""
        self.watches[clause[0]].append(clause)
        self.watches[clause[1]].append(clause)

    def assign(self, literal, reason):
        """Makes a literal hold, which was open."""
        self.worths[literal] = 1
        self.worths[literal ^ 1] = -1
        self.levels[literal >> 1] = len(self.limits)
        self.reasons[literal >> 1] = reason
        self.trail.append(literal)

    def propagate(self):
        """Assigns all that follows of clauses; the clause that fails, or None."""
        worths, watches, trail = self.worths, self.watches, self.trail
        while self.seen < len(trail):
            failed = trail[self.seen] ^ 1
            self.seen += 1
            watching = watches[failed]
            kept = []
            watches[failed] = kept
            for at, clause in enumerate(watching):
                first = clause[0]
                if first == failed:
                    first = clause[0] = clause[1]
                    clause[1] = failed
                if worths[first] > 0:
                    kept.append(clause)
                    continue
                for k in range(2, len(clause)):
                    other = clause[k]
                    if worths[other] >= 0:
                        clause[1] = other
                        clause[k] = failed
                        watches[other].append(clause)
                        break
                else:
                    kept.append(clause)
                    if worths[first] < 0:
                        kept.extend(watching[at + 1:])
                        return clause
                    self.assign(first, clause)
        return None

    def cancel(self, level):
        """Takes back what was assigned above a level."""
        if len(self.limits) <= level:
            return
        start = self.limits[level]
        for literal in self.trail[start:]:
            self.worths[literal] = 0
            self.worths[literal ^ 1] = 0
            truth = literal >> 1
            self.phases[truth] = literal & 1
            if not self.queued[truth]:
                self.queued[truth] = True
                heappush(self.queue, (-self.scores[truth], truth))
        del self.trail[start:]
        del self.limits[level:]
        self.seen = start

    def bump(self, truth):
        """Makes a truth weigh more: it played a part in a dead end."""
        self.scores[truth] += self.gain
        if self.worths[2 * truth] == 0 or self.queued[truth]:
            self.queued[truth] = True
            heappush(self.queue, (-self.scores[truth], truth))

    def grow_gain(self):
        """What comes later weighs more."""
        self.gain = self.gain * 20 // 19
        if self.gain > HIGH_SCORE:
            self.gain = self.gain >> 60
            self.scores = [score >> 60 for score in self.scores]
            self.queue = []
            for truth in range(len(self.scores)):
                self.queued[truth] = self.worths[2 * truth] == 0
                if self.queued[truth]:
                    heappush(self.queue, (-self.scores[truth], truth))

    def analyse(self, clause):
        """The clause that is learned from one that fails: its first literal will follow at a lower level."""
        marked = {}
        learned = [0]
        waiting = 0
        at = len(self.trail) - 1
        level = len(self.limits)
        literal = None
        while True:
            for one in clause:
                truth = one >> 1
                if one != literal and truth not in marked and self.levels[truth] > 0:
                    marked[truth] = True
                    self.bump(truth)
                    if self.levels[truth] == level:
                        waiting += 1
                    else:
                        learned.append(one)
            while self.trail[at] >> 1 not in marked:
                at -= 1
            literal = self.trail[at]
            at -= 1
            waiting -= 1
            if waiting == 0:
                break
            clause = self.reasons[literal >> 1]
        learned[0] = literal ^ 1
        return self.shortened(learned, marked)

    def shortened(self, learned, marked):
        """A learned clause without literals that follow of its other ones."""
        kept = [learned[0]]
        for one in learned[1:]:
            reason = self.reasons[one >> 1]
            if reason is None or not self.is_covered(reason, marked):
                kept.append(one)
        return kept

    def is_covered(self, reason, marked):
        """Whether all truths of a reason but its first one are marked, or hold from the start."""
        for one in reason[1:]:
            if one >> 1 not in marked and self.levels[one >> 1] > 0:
                return False
        return True

    def learn(self, clause):
        """Keeps a clause that was learned, and assigns its first literal at the level where it follows."""
        if len(clause) == 1:
            self.cancel(0)
            self.assign(clause[0], None)
            return
        highest = max([self.levels[one >> 1] for one in clause[1:]])
        at = [k for k, one in enumerate(clause) if k > 0 and self.levels[one >> 1] == highest][0]
        clause[1], clause[at] = clause[at], clause[1]
        many_levels = len({self.levels[one >> 1]: True for one in clause})
        self.cancel(highest)
        self.watch(clause)
        self.learned.append((many_levels, clause))
        self.assign(clause[0], clause)

    def forget(self):
        """Drops the half of the learned clauses that join most levels; nothing is decided at this moment."""
        ordered = sorted([(many, at) for at, (many, _) in enumerate(self.learned)])
        kept = {at: True for many, at in ordered if many <= 3}
        for _, at in ordered[:len(ordered) // 2]:
            kept[at] = True
        rest = []
        for at, pair in enumerate(self.learned):
            if at in kept:
                rest.append(pair)
            else:
                pair[1].append(-1)
        self.learned = rest
        self.watches = [[clause for clause in watching if clause[-1] >= 0] for watching in self.watches]
        self.most_learned = self.most_learned + self.most_learned // 10

    def next_literal(self):
        """An open literal to be tried, or None if all truths are assigned."""
        while self.queue:
            score, truth = heappop(self.queue)
            if -score != self.scores[truth]:
                continue
            self.queued[truth] = False
            if self.worths[2 * truth] == 0:
                return 2 * truth + self.phases[truth]
        return None

    def decide(self, wanted):
        """Decides the next literal, wanted ones first: "all" if none is open, "none" if a wanted one fails."""
        literal = None
        while len(self.limits) < len(wanted) and literal is None:
            one = wanted[len(self.limits)]
            if self.worths[one] < 0:
                return "none"
            if self.worths[one] > 0:
                self.limits.append(len(self.trail))
            else:
                literal = one
        if literal is None:
            literal = self.next_literal()
        if literal is None:
            return "all"
        self.limits.append(len(self.trail))
        self.assign(literal, None)
        return None

    def search(self, wanted):
        """Whether all clauses can hold with some wanted literals; if so, the truths stay assigned until cancel."""
        starts = 0
        while not self.is_lost:
            starts += 1
            self.cancel(0)
            if len(self.learned) > self.most_learned:
                self.forget()
            ended = self.search_round(wanted, ROUND * luby(starts))
            if ended is not None:
                return ended
        return False

    def search_round(self, wanted, many):
        """Searches until so many dead ends were met: whether all clauses can hold, or None if that is open."""
        while many > 0:
            failed = self.propagate()
            if failed is not None:
                many -= 1
                if not self.limits:
                    self.is_lost = True
                    return False
                self.learn(self.analyse(failed))
                self.grow_gain()
            else:
                told = self.decide(wanted)
                if told is not None:
                    return told == "all"
        return None
