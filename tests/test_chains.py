"""bothsure/chains.py: points 1, 15 to 18, 22, 23, 28 and 29."""

import random
from itertools import islice, permutations

from bothsure.chains import Chain, spin
from bothsure.closing import closed_states, passable, rounds_needed
from bothsure.errors import InvalidCount, InvalidState, NoChain, NotClosed, OutOfChain
from bothsure.known import anything, at_most_lost, falls_silent, losses_apart, no_run, one_way, reliable
from bothsure.rules import Rule
from bothsure.runs import Run, alike
from tests.reference import closed_sets, cycle, ladder, random_tables, read, shortest_chain
from tests.timing import TimedCase

N = None
TABLES = [
    [[0, 0, 0, 0]],
    [[0, 0, 0, N]],
    [[N, N, N, 0]],
    [[0, N, N, N]],
    [[0, 0, N, N]],
    [[1, 1, N, N], [1, 1, 1, 1]],
    [[0, 1, 1, 2], [1, 2, 2, N], [2, N, N, N]],
    [[0, 1, 1, 2], [1, 2, 2, 3], [2, 3, 3, N], [3, N, N, N]],
    [[1, 1, 1, 2], [1, 1, 1, N], [2, 2, 2, 2]],
    [[2, 2, 2, 1], [1, 1, 1, N], [2, 2, 2, 2]],
    [[0, 0, 0, 1], [1, N, N, N]],
    [[0, 0, 0, 1], [2, 2, 2, N], [2, N, N, N]],
    [[1, 2, 3, N], [2, 3, 1, N], [3, 1, 2, 0], [3, N, N, N]],
    [[N, N, N, 1], [N, N, N, 2], [0, 0, 0, N]],
    [[1, 2, 0, N], [N, N, N, 2], [0, 1, 1, 3], [3, N, N, N]],
    [],
]
RULES = [Rule(table) for table in TABLES + random_tables(51, 60, 5)]
AROUND = Rule([[0, 0, 0, N]])
# Three states that are met in turn; `n` leads to states that are passable for no round more.
TURNING = Rule([[1, 2, 0, 3], [2, 0, 1, N], [0, 1, 1, 4], [3, N, N, N], [N, 4, N, N]])
WRONG_COUNTS = (-1, 61, 62, -60, 10 ** 59, -10 ** 59)


def parts(run):
    return (run.first, run.second, run.fates)


def states_met(rule, fates):
    return [read(rule.rows, fates[:at]) for at in range(len(fates) + 1)]


class ChainCase(TimedCase):
    def assert_neighbours(self, one, other):
        self.assertTrue(alike(one, other, to="first") or alike(one, other, to="second"), (str(one), str(other)))

    def assert_chain(self, runs, rule, rounds):
        """Check all that point 15 asks of a chain."""
        for run in runs:
            self.assertIs(Run, type(run))
            self.assertEqual(rounds, run.rounds)
            self.assertIn(run.fates, rule)
        self.assertEqual([(0, 0), (1, 1)], [(run.first, run.second) for run in (runs[0], runs[-1])])
        for one, other in zip(runs, runs[1:]):
            self.assert_neighbours(one, other)
        self.assertEqual(len(runs), len({parts(run) for run in runs}))

    def around(self, length, many=60):
        """Some positions that have a neighbour behind them: near the ends, the middle and anywhere."""
        chooser = random.Random(length)
        places = [chooser.randrange(length - 1) for _ in range(many)]
        for middle in (length // 3, length // 2, 2 * (length // 3)):
            places += [middle + more for more in range(-3, 4)]
        return list(range(4)) + places + list(range(length - 5, length - 1))


class ChainTest(ChainCase):
    def test_shortest_by_a_search_over_all_runs(self):
        lengths = []
        for rule in RULES:
            for rounds in range(5):
                expected = shortest_chain(rule.rows, rounds)
                lengths.append(expected)
                if expected is None:
                    with self.assertRaises(NoChain) as held:
                        Chain(rule, rounds=rounds)
                    self.assertEqual({}, vars(held.exception))
                    continue
                chain = Chain(rule, rounds=rounds)
                self.assertEqual((expected, rounds), (chain.length, chain.rounds))
                self.assert_chain([chain[at] for at in range(chain.length)], rule, rounds)
        self.assertLessEqual({None, 3, 5, 11, 29, 83}, set(lengths))

    def test_the_shorter_way_is_taken(self):
        # Behind `n` the passages are long and those around are short, then the other way round.
        for rounds in range(1, 61):
            rule = Rule([[2, 2, 2, 1], [1, 1, 1, N], [2, 2, 2, 2]])
            self.assertEqual(3 if rounds == 1 else 5, Chain(rule, rounds=rounds).length)
            rule = Rule([[1, 1, 1, 2], [1, 1, 1, N], [2, 2, 2, 2]])
            self.assertEqual(3, Chain(rule, rounds=rounds).length)

    def test_a_way_that_is_passable_for_few_rounds_only(self):
        # With two rounds `n` still leads on, and with more rounds only the way around does.
        rule = Rule([[0, 0, 0, 1], [2, 2, 2, N], [2, N, N, N]])
        self.assertEqual([3, 3, 5, 11, 29], [Chain(rule, rounds=rounds).length for rounds in range(5)])

    def test_no_round(self):
        for rule in RULES:
            if not rule.empty:
                chain = Chain(rule, rounds=0)
                self.assertEqual(["0 0 -", "0 1 -", "1 1 -"], [str(chain[at]) for at in range(3)])
                self.assertEqual((3, 0), (chain.length, chain.rounds))

    def test_by_hand(self):
        chain = Chain(at_most_lost(1), rounds=1)
        self.assertEqual(["0 0 s", "0 1 s", "0 1 b", "0 1 f", "1 1 f"], [str(chain[at]) for at in range(5)])
        chain = Chain(anything(), rounds=60)
        self.assertEqual([(0, 0, "n" * 60), (0, 1, "n" * 60), (1, 1, "n" * 60)],
                         [parts(chain[at]) for at in range(chain.length)])

    def test_there_is_a_chain_where_the_ends_cannot_be_sure(self):
        for rule in RULES + [at_most_lost(5), falls_silent(), losses_apart(3), one_way("first"), reliable()]:
            needed = rounds_needed(rule)
            for rounds in (0, 1, 2, 3, 4, 5, 6, 7, 59, 60):
                if needed is None or rounds < needed:
                    self.assertEqual(rounds, Chain(rule, rounds=rounds).rounds)
                    self.assertIn(0, passable(rule, rounds=rounds))
                else:
                    with self.assertRaises(NoChain):
                        Chain(rule, rounds=rounds)

    def test_empty_rules(self):
        for rule in (no_run(), Rule([[1, N, N, N], [N, N, N, N]])):
            for rounds in (0, 1, 60):
                with self.assertRaises(NoChain):
                    Chain(rule, rounds=rounds)

    def test_the_same_run_asked_again(self):
        for rule in RULES[:8] + [TURNING]:
            for rounds in (0, 1, 2, 5, 60):
                if 0 in passable(rule, rounds=rounds) and rule.size:
                    chain, other = Chain(rule, rounds=rounds), Chain(rule, rounds=rounds)
                    places = self.around(chain.length) if chain.length > 9 else list(range(chain.length))
                    before = [parts(chain[at]) for at in places]
                    self.assertEqual(before[::-1], [parts(chain[at]) for at in places[::-1]])
                    # A run that was taken is not the chain's own.
                    self.assertEqual(before, [parts(other[at]) for at in places])

    def test_far_inside(self):
        self.assertEqual(3 ** 60 + 2, Chain(AROUND, rounds=60).length)
        self.assertEqual(5, TURNING.size)
        for rule in (AROUND, TURNING):
            chain = self.assert_quick(lambda: Chain(rule, rounds=60))
            self.assertGreater(chain.length, 10 ** 28)
            self.assert_far_inside(chain, rule)

    def assert_far_inside(self, chain, rule):
        def look():
            for at in self.around(chain.length):
                one, other = chain[at], chain[at + 1]
                self.assert_neighbours(one, other)
                self.assertNotEqual(parts(one), parts(other))
                for run in (one, other):
                    self.assertIn(run.fates, rule)
                    self.assertEqual(60, run.rounds)
            self.assertEqual([(0, 0), (0, 1), (0, 1), (1, 1)], [
                (chain[at].first, chain[at].second) for at in (0, 1, chain.length - 2, chain.length - 1)])
        self.assert_quick(look)

    def test_silence_at_the_ends_of_a_passage(self):
        chain = Chain(AROUND, rounds=60)
        self.assertEqual([(0, 0, "s" * 60), (0, 1, "s" * 60)], [parts(chain[at]) for at in (0, 1)])
        last = chain.length - 1
        self.assertEqual([(0, 1, "f" * 60), (1, 1, "f" * 60)], [parts(chain[at]) for at in (last - 1, last)])

    def test_largest_rules(self):
        for row in [(1, 1, 1, N), (0, 1, 1, N), (0, 1, 1, 1)]:
            rule = Rule(ladder(120, row))
            chain = self.assert_quick(lambda: Chain(rule, rounds=60))
            self.assertEqual(3 if row[3] else 3 ** 60 + 2, chain.length)
            if chain.length > 3:
                self.assert_far_inside(chain, rule)
        # Few states can read `n`, so most rounds are passed by the way around.
        rows = [[(state + 1) % 120, (state + 7) % 120, (state + 11) % 120, (state + 1) % 120 if state < 9 else N]
                for state in range(120)]
        rule = Rule(rows)
        self.assertEqual(120, rule.size)
        self.assert_far_inside(self.assert_quick(lambda: Chain(rule, rounds=60)), rule)

    def test_positions_out_of_the_chain(self):
        for chain in (Chain(at_most_lost(1), rounds=1), Chain(AROUND, rounds=60), Chain(reliable(), rounds=0)):
            before = vars(chain).copy()
            for wrong in (-1, -2, -chain.length, chain.length, chain.length + 1, 10 ** 59, -10 ** 59):
                with self.assertRaises(OutOfChain) as held:
                    chain[wrong]
                self.assertEqual(wrong, held.exception.position)
            self.assertEqual(before, vars(chain))

    def test_wrong_counts(self):
        for rule in RULES + [no_run(), reliable()]:
            for wrong in WRONG_COUNTS:
                with self.assertRaises(InvalidCount) as held:
                    Chain(rule, rounds=wrong)
                self.assertEqual(wrong, held.exception.amount)

    def test_rounds_by_keyword_only(self):
        with self.assertRaises(TypeError):
            Chain(anything(), 1)

    def test_objects_stay(self):
        table = [[0, 1, 1, 2], [1, 2, 2, N], [2, N, N, N]]
        rule = Rule(table)
        before = rule.rows
        chain = Chain(rule, rounds=2)
        runs = [parts(chain[at]) for at in range(chain.length)]
        table.clear()
        self.assertEqual(before, rule.rows)
        self.assertEqual(runs, [parts(chain[at]) for at in range(chain.length)])


class PieceTest(ChainCase):
    def test_all_pieces_of_small_chains(self):
        for rule in RULES[:10]:
            for rounds in range(4):
                if rule.empty or 0 not in passable(rule, rounds=rounds):
                    continue
                chain = Chain(rule, rounds=rounds)
                runs = [parts(chain[at]) for at in range(chain.length)]
                for start in list(range(8)) + [chain.length - 1, chain.length, chain.length + 1, 10 ** 59]:
                    for stop in list(range(8)) + [chain.length - 1, chain.length, chain.length + 1, 10 ** 59]:
                        found = list(chain.piece(start, stop))
                        self.assertEqual(runs[start:stop], [parts(run) for run in found])

    def test_kinds(self):
        piece = Chain(at_most_lost(1), rounds=1).piece(0, 9)
        self.assertIs(piece, iter(piece))
        found = list(piece)
        self.assertEqual([Run] * 5, [type(run) for run in found])
        self.assert_chain(found, at_most_lost(1), 1)

    def test_one_by_one(self):
        def look():
            chain = Chain(AROUND, rounds=60)
            for start in (0, 1, 10 ** 28, chain.length - 500):
                found = list(islice(chain.piece(start, 10 ** 59), 400))
                self.assertEqual([parts(chain[at]) for at in range(start, start + 400)], [parts(run) for run in found])
                for one, other in zip(found, found[1:]):
                    self.assert_neighbours(one, other)
            self.assertEqual(3, len(list(chain.piece(chain.length - 3, chain.length + 7))))
            self.assertEqual(7, len(list(chain.piece(10 ** 27, 10 ** 27 + 7))))
        self.assert_quick(look)

    def test_nothing(self):
        chain = Chain(AROUND, rounds=60)
        for start, stop in [(0, 0), (5, 5), (5, 4), (5, 0), (10 ** 28, 10 ** 28), (10 ** 28, 1),
                            (chain.length, chain.length), (chain.length, chain.length + 5), (10 ** 58, 10 ** 59),
                            (10 ** 59, 0)]:
            self.assertEqual([], self.assert_quick(lambda: list(chain.piece(start, stop))))

    def test_two_at_a_time(self):
        chain = Chain(at_most_lost(1), rounds=1)
        one, other = chain.piece(0, 5), chain.piece(1, 4)
        self.assertEqual(["0 0 s", "0 1 s", "0 1 s", "0 1 b"], [str(next(each)) for each in (one, other, one, one)])
        self.assertEqual(["0 1 b", "0 1 f"], [str(run) for run in other])


class SpinTest(ChainCase):
    def test_all_closed_sets_of_small_rules(self):
        many = 0
        for rule in RULES + [TURNING]:
            for states in closed_sets(rule.rows):
                if 0 not in states:
                    continue
                many += len(states) > 1
                for rounds in range(5):
                    runs = list(spin(rule, sorted(states), rounds=rounds))
                    self.assert_chain(runs, rule, rounds)
                    for run in runs:
                        self.assertLessEqual(set(states_met(rule, run.fates)), states)
        self.assertGreater(many, 20)

    def test_any_order_and_doubles(self):
        rule = Rule([[1, 2, 1, N], [N, N, N, 2], [0, 1, 1, N]])
        self.assertEqual([0, 1, 2], closed_states(rule))
        expected = [parts(run) for run in spin(rule, [0, 1, 2], rounds=4)]
        for order in permutations([0, 1, 2]):
            for states in (list(order), list(order) * 2, list(order) + [order[0]] * 5):
                before = list(states)
                self.assertEqual(expected, [parts(run) for run in spin(rule, states, rounds=4)])
                self.assertEqual(before, states)

    def test_not_by_states_outside_the_set(self):
        # Behind `n` lies a shorter chain, but it leaves the set.
        rule = Rule([[0, 0, 0, 1], [1, N, N, 1]])
        self.assertEqual(3, Chain(rule, rounds=3).length)
        runs = list(spin(rule, [0], rounds=3))
        self.assertEqual(29, len(runs))
        self.assertNotIn("n", "".join([run.fates for run in runs]))
        # The state behind the last round must be in the set, too.
        rule = Rule([[0, 0, 0, 1], [1, 1, 1, N]])
        for rounds in range(1, 5):
            for run in spin(rule, [0], rounds=rounds):
                self.assertNotIn("n", run.fates)

    def test_states_that_no_run_meets(self):
        rule = Rule([[1, N, N, 0], [1, 2, 2, N], [2, 2, 2, 1]])
        for rounds in (0, 1, 5, 60):
            for states in ([0], [1, 0, 2], [2, 0, 1, 2]):
                self.assertEqual(["0 0 " + ("n" * rounds or "-"), "0 1 " + ("n" * rounds or "-"),
                                  "1 1 " + ("n" * rounds or "-")],
                                 [str(run) for run in spin(rule, states, rounds=rounds)])
            # A state that no run would meet makes the set one that is not closed.
            with self.assertRaises(NotClosed):
                list(spin(rule, [0, 1], rounds=rounds))

    def test_not_closed(self):
        for rule in RULES:
            sets = closed_sets(rule.rows)
            for choice in range(2 ** rule.size):
                states = [state for state in range(rule.size) if choice >> state & 1]
                if set(states) in sets and 0 in states:
                    continue
                for rounds in (0, 1, 60):
                    with self.assertRaises(NotClosed) as held:
                        next(spin(rule, states, rounds=rounds))
                    self.assertEqual({}, vars(held.exception))

    def test_closed_without_the_start(self):
        rule = Rule([[1, N, N, N], [1, 1, 1, 1]])
        self.assertEqual([1], closed_states(rule))
        for states in ([1], []):
            with self.assertRaises(NotClosed):
                list(spin(rule, states, rounds=3))

    def test_empty_rules(self):
        for rounds in (0, 1, 60):
            with self.assertRaises(NotClosed):
                list(spin(no_run(), [], rounds=rounds))
            with self.assertRaises(InvalidState) as held:
                list(spin(no_run(), [0], rounds=rounds))
            self.assertEqual(0, held.exception.state)

    def test_wrong_states_before_counts_before_sets(self):
        for rule in (anything(), reliable(), no_run(), AROUND, at_most_lost(2)):
            size = rule.size
            for wrong in (-1, size, size + 1, -size - 1, 10 ** 59, -10 ** 59):
                for states in ([wrong], list(range(size)) + [wrong, -9], [wrong, size + 7] + list(range(size))):
                    for rounds in (0, 60) + WRONG_COUNTS:
                        with self.assertRaises(InvalidState) as held:
                            list(spin(rule, states, rounds=rounds))
                        self.assertEqual(wrong, held.exception.state)
            for states in ([], list(range(size)), list(range(1, size)), list(range(size)) * 2):
                for wrong in WRONG_COUNTS:
                    with self.assertRaises(InvalidCount) as held:
                        list(spin(rule, states, rounds=wrong))
                    self.assertEqual(wrong, held.exception.amount)

    def test_one_by_one(self):
        def look():
            for rule, states in ((AROUND, [0]), (TURNING, [2, 1, 0])):
                found = list(islice(spin(rule, states, rounds=60), 1000))
                self.assertEqual((0, 0), (found[0].first, found[0].second))
                self.assertEqual(1000, len({parts(run) for run in found}))
                for one, other in zip(found, found[1:]):
                    self.assert_neighbours(one, other)
                for run in found:
                    self.assertLessEqual(set(states_met(rule, run.fates)), set(states))
                    self.assertEqual(60, run.rounds)
        self.assert_quick(look)

    def test_sixty_rounds_in_full(self):
        runs = list(spin(anything(), [0], rounds=60))
        self.assert_chain(runs, anything(), 60)
        # Only in the last round there is no `n`, so the way around is taken once.
        rule = Rule(cycle(60, "bfs", everywhere="n"))
        self.assert_chain(list(spin(rule, list(range(60)), rounds=60)), rule, 60)
        rows = [[N, N, N, state + 1] for state in range(59)] + [[60, 60, 60, N], [60, 60, 60, 60]]
        runs = list(spin(Rule(rows), list(range(61)), rounds=60))
        self.assertEqual(5, len(runs))
        self.assert_chain(runs, Rule(rows), 60)

    def test_largest_rule(self):
        rule = Rule(cycle(120, "f", everywhere="n"))
        self.assertEqual(120, rule.size)
        runs = self.assert_quick(lambda: list(spin(rule, list(range(119, -1, -1)), rounds=60)))
        self.assert_chain(runs, rule, 60)
        rule = Rule([[(state + more) % 120 for more in (1, 2, 5)] + [state if state == 60 else N]
                     for state in range(120)])
        self.assertEqual(120, rule.size)
        found = self.assert_quick(lambda: list(islice(spin(rule, list(range(120)), rounds=60), 300)))
        for one, other in zip(found, found[1:]):
            self.assert_neighbours(one, other)

    def test_a_list_that_is_changed_later(self):
        rule = Rule([[0, 0, 0, 1], [1, 1, 1, 1]])
        for later in ([], [1], [5, -1], [0, 1, 0]):
            states = [0]
            found = spin(rule, states, rounds=2)
            runs = [parts(next(found))]
            states[:] = later
            runs += [parts(run) for run in found]
            self.assertEqual([parts(run) for run in spin(rule, [0], rounds=2)], runs)
            self.assertEqual(later, states)

    def test_rounds_by_keyword_only(self):
        with self.assertRaises(TypeError):
            spin(anything(), [0], 1)

    def test_the_rule_stays(self):
        for rule in RULES:
            before = rule.rows
            if 0 in closed_states(rule):
                list(spin(rule, closed_states(rule), rounds=2))
            self.assertEqual(before, rule.rows)
