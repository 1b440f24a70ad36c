"""Point 9: votes of three and of four."""

import random
import unittest
from itertools import combinations, product

from brute import BOOKS, NEXT, NOTALL, PARITY, all_votes, is_result, some_forms, vote_keeps
from clashnumber.books import Book
from clashnumber.errors import NoVote
from clashnumber.forms import fillings, is_filling
from clashnumber.operations import Choice, Vote
from clashnumber.tables import Table
from samples import BITS, EITHER, MOST, OBJECTS, PAIRS, STRANGE, TRIT, WRONG_DOMAINS, Checks, state

ONE = ("x",)
ALWAYS = ("no",) * 4 + ("yes",) * 4
FOUR = Vote(BITS, 4, tuple("yes" if some.count("yes") > 2 else "no" for some in product(BITS, repeat=4)))


def some_vote(source, domain, count):
    """Some vote of count over these values."""
    results = []
    for some in product(domain, repeat=count):
        most = [value for value in domain if some.count(value) >= count - 1]
        results.append(source.choice(most or domain))
    return Vote(domain, count, tuple(results))


class MadeTests(Checks, unittest.TestCase):
    def test_the_examples(self):
        self.assertEqual(
            [MOST.results, MOST(("no", "yes", "yes")), MOST.keeps_book(PAIRS)],
            [("no", "no", "no", "yes", "no", "yes", "yes", "yes"), "yes", True],
        )
        table = Table.full(BITS, 3) - Table(BITS, 3, (("yes", "yes", "yes"),))
        self.assertEqual(MOST.broken(table)[1], ("yes", "yes", "yes"))

    def test_attributes(self):
        for domain, count, results in ((BITS, 3, MOST.results), (ONE, 3, ("x",)), (ONE, 4, ("x",)), (BITS, 4, FOUR.results)):
            for vote in (Vote(domain, count, results), Vote(results=results, count=count, domain=domain)):
                self.assertEqual([vote.domain, vote.count, vote.results], [domain, count, results])
                self.assertIs(vote.results.__class__, tuple)

    def test_all_votes_of_small_domains_are_made(self):
        for domain, count, many in ((ONE, 3, 1), (ONE, 4, 1), (BITS, 3, 1), (BITS, 4, 64), (TRIT, 3, 729)):
            found = [Vote(domain, count, results).results for results in all_votes(domain, count)]
            self.assertEqual(len(set(found)), many)

    def test_middle(self):
        for domain in (ONE, BITS, TRIT, ("b", "bb", "c")):
            vote = Vote.middle(domain)
            self.assertEqual([vote.domain, vote.count, len(vote.results)], [domain, 3, len(domain) ** 3])
            for some in product(domain, repeat=3):
                self.assertEqual(vote(some), sorted(some)[1])
            self.assertEqual(Vote.middle(domain=domain), vote)

    def test_wrong_domains(self):
        self.refused_each(NoVote, "domain", lambda thing: Vote(thing, 3, MOST.results), WRONG_DOMAINS)
        self.refused_each(NoVote, "domain", lambda thing: Vote(domain=thing, count=3, results=()), WRONG_DOMAINS)
        self.refused_each(NoVote, "domain", lambda thing: Vote(thing, thing, thing), WRONG_DOMAINS)

    def test_wrong_counts(self):
        wrong = [thing for thing in STRANGE + OBJECTS if thing != 4] + [1, 2, 5, 6, "3", (3,), [3], -3, 10 ** 40 - 1]
        self.refused_each(NoVote, "count", lambda thing: Vote(BITS, thing, MOST.results), wrong)
        self.refused_each(NoVote, "count", lambda thing: Vote(results=MOST.results, count=thing, domain=BITS), wrong)
        self.refused_each(NoVote, "count", lambda thing: Vote(BITS, thing, thing), wrong)

    def test_wrong_results(self):
        right = MOST.results
        wrong = STRANGE + OBJECTS + (
            (), list(right), right[1:], right + ("yes",), right + right, "".join(right), dict(enumerate(right)), right * 2500,
            FOUR.results, tuple(right + ("yes",))[:7],
        )
        self.refused_each(NoVote, "results", lambda thing: Vote(BITS, 3, thing), wrong)
        self.refused_each(NoVote, "results", lambda thing: Vote(results=thing, count=3, domain=BITS), wrong)
        for thing in STRANGE + OBJECTS + ("maybe", ("no",), ["no"]):
            for at in (0, 3, 7):
                self.refused(NoVote, "results", Vote, BITS, 3, right[:at] + (thing,) + right[at + 1:])
        self.refused(NoVote, "results", Vote, BITS, 4, right)
        self.refused(NoVote, "results", Vote, ONE, 3, ("no",))
        self.refused(NoVote, "results", Vote, TRIT, 3, ("a",) * 26)

    def test_odd(self):
        for domain, count in ((BITS, 3), (BITS, 4), (TRIT, 3), (TRIT, 4)):
            right = some_vote(random.Random(1), domain, count).results
            for at, some in enumerate(product(domain, repeat=count)):
                for value in domain:
                    results = right[:at] + (value,) + right[at + 1:]
                    most = [each for each in domain if some.count(each) >= count - 1]
                    if most and most != [value]:
                        self.refused(NoVote, "odd", Vote, domain, count, results)
                    else:
                        self.assertEqual(Vote(domain, count, results).results, results)
        self.refused(NoVote, "odd", Vote, BITS, 3, ALWAYS)
        self.refused(NoVote, "odd", Vote, results=("no",) * 16, count=4, domain=BITS)

    def test_the_first_of_several_errors(self):
        self.refused(NoVote, "domain", Vote, ("yes", "no"), 5, None)
        self.refused(NoVote, "domain", Vote, (), True, ALWAYS)
        self.refused(NoVote, "count", Vote, BITS, 5, None)
        self.refused(NoVote, "count", Vote, BITS, True, ALWAYS)
        self.refused(NoVote, "results", Vote, BITS, 3, ALWAYS[:7])
        self.refused(NoVote, "results", Vote, BITS, 3, ("yes",) * 7 + ("maybe",))

    def test_equal(self):
        self.assertIs(MOST == Vote.middle(BITS), True)
        self.assertIs(MOST != Vote(BITS, 3, MOST.results), False)
        self.assertEqual(Vote(ONE, 3, ("x",)), Vote.middle(ONE))
        for other in (Vote(ONE, 3, ("x",)), FOUR, Vote.middle(("no", "yet")), Vote.middle(TRIT)):
            self.assertNotEqual(MOST, other)
        self.assertNotEqual(Vote(ONE, 3, ("x",)), Vote(ONE, 4, ("x",)))
        votes = [Vote(BITS, 4, results) for results in all_votes(BITS, 4)]
        self.assertTrue(all((one == other) == (one is other) for one in votes for other in votes))
        self.not_equal_to_others(MOST)
        self.assertFalse(Vote(ONE, 3, ("x",)) == Choice(ONE, ("x",)))
        self.assertFalse(MOST == MOST.results)


class CalledTests(Checks, unittest.TestCase):
    def test_called(self):
        for vote in (MOST, FOUR, Vote.middle(ONE), some_vote(random.Random(2), TRIT, 3), some_vote(random.Random(3), TRIT, 4)):
            arguments = list(product(vote.domain, repeat=vote.count))
            self.assertEqual(tuple(vote(some) for some in arguments), vote.results)
            self.assertEqual(tuple(vote(some=some) for some in arguments), vote.results)

    def test_called_wrongly(self):
        right = ("no", "yes", "yes")
        wrong = STRANGE + OBJECTS + ((), right[:2], list(right), "abc", {"no": 1, "yes": 2, "a": 3}, right * 6666)
        self.refused_each(NoVote, "count", MOST, wrong + (right + right[:1],))
        self.refused_each(NoVote, "count", lambda thing: MOST(some=thing), wrong + (right + right[:1],))
        self.refused_each(NoVote, "count", FOUR, wrong + (right, list(right + right[:1]), "abcd"))
        for thing in STRANGE + OBJECTS + ("maybe", "a", ("no",), ["yes"]):
            for at in range(3):
                self.refused(NoVote, "domain", MOST, right[:at] + (thing,) + right[at + 1:])
            self.refused(NoVote, "domain", FOUR, (thing,) * 4)
            self.refused(NoVote, "count", MOST, (thing,) * 4)

    def test_rows_voted(self):
        rows = (("no", "yes", "no", "yes"), ("yes", "yes", "no", "no"), ("yes", "no", "no", "no"))
        self.assertEqual(MOST.rows_voted(*rows), ("yes", "yes", "no", "no"))
        self.assertEqual(MOST.rows_voted((), (), ()), ())
        self.assertEqual(FOUR.rows_voted(*rows, rows[0]), ("no", "yes", "no", "no"))
        vote = some_vote(random.Random(4), TRIT, 3)
        columns = list(product(TRIT, repeat=3))
        rows = list(zip(*columns))
        self.assertEqual(vote.rows_voted(*rows), tuple(vote(column) for column in columns))

    def test_rows_voted_of_another_number(self):
        row = ("no", "yes")
        for vote in (MOST, FOUR, Vote.middle(ONE)):
            for many in (0, 1, 2, 3, 4, 5, 20):
                if many != vote.count:
                    self.refused(NoVote, "count", vote.rows_voted, *[row] * many)
                    for thing in STRANGE + OBJECTS:
                        self.refused(NoVote, "count", vote.rows_voted, *[thing] * many)

    def test_fillings_voted_are_fillings(self):
        source = random.Random(5)
        for form in some_forms(6, 80):
            for count in (3, 4):
                vote = some_vote(source, form.book.domain, count)
                found = list(fillings(form))
                if vote.keeps_book(form.book) and found:
                    for _ in range(10):
                        rows = [source.choice(found) for _ in range(count)]
                        self.assertTrue(is_filling(form, vote.rows_voted(*rows)))


class KeepsTests(Checks, unittest.TestCase):
    def check(self, vote, table):
        """Whether the vote keeps the table, held against all rows."""
        right = is_result(dict(zip(product(vote.domain, repeat=vote.count), vote.results)), vote.count, table)
        found = self.unchanged([vote, table], vote.broken, table)
        self.assertIs(vote.keeps(table), right)
        self.assertIs(vote.keeps_book(Book(vote.domain, (("t", table),))), right)
        self.assertEqual(found is None, right)
        if found is not None:
            self.assertIs(found.__class__, tuple)
            rows, row = found
            self.assertIs(rows.__class__, tuple)
            self.assertEqual(len(rows), vote.count)
            self.assertTrue(all(each in table for each in rows))
            self.assertEqual(row, vote.rows_voted(*rows))
            self.assertNotIn(row, table)

    def test_all_tables_of_two_values(self):
        for width in (1, 2, 3):
            rows = list(product(BITS, repeat=width))
            for many in range(len(rows) + 1):
                for some in combinations(rows, many):
                    self.check(MOST, Table(BITS, width, some))

    def test_votes_of_four(self):
        source = random.Random(7)
        for results in all_votes(BITS, 4):
            for table in (EITHER, NOTALL, PARITY, Table.full(BITS, 2), Table(BITS, 3)):
                if source.random() < 0.3:
                    self.check(Vote(BITS, 4, results), table)

    def test_three_values(self):
        source = random.Random(8)
        for at in range(150):
            vote = some_vote(source, TRIT, 4 if at % 10 == 0 else 3)
            width = source.choice((1, 2, 3))
            rows = list(product(TRIT, repeat=width))
            self.check(vote, Table(TRIT, width, tuple(source.sample(rows, source.randint(0, min(5, len(rows)))))))
        for table in (NEXT, ~NEXT, Table.full(TRIT, 1), Table(TRIT, 3)):
            self.check(Vote.middle(TRIT), table)

    def test_one_value(self):
        for vote in (Vote(ONE, 3, ("x",)), Vote(ONE, 4, ("x",))):
            for width in (1, 2, 3):
                self.check(vote, Table(ONE, width))
                self.check(vote, Table.full(ONE, width))

    def test_large_tables(self):
        self.assertIs(Vote.middle(TRIT).keeps(Table.full(TRIT, 3)), True)
        rows, row = Vote.middle(TRIT).broken(~Table(TRIT, 3, (("b", "b", "b"),)))
        self.assertEqual([row, len(rows)], [("b", "b", "b"), 3])
        eight = Table(TRIT, 3, tuple(product(("a", "c"), repeat=3)))
        self.assertIs(Vote.middle(TRIT).keeps(eight), True)
        self.assertIs(Vote(TRIT, 4, tuple(min(some) if some.count(max(some)) < 3 else max(some)
                                          for some in product(TRIT, repeat=4))).keeps(eight), True)

    def test_by_name(self):
        self.assertEqual([MOST.keeps(table=EITHER), MOST.broken(table=EITHER), MOST.keeps_book(book=PAIRS)], [True, None, True])

    def test_keeps_book(self):
        source = random.Random(9)
        for book, _, _ in BOOKS:
            for count in (3, 4):
                vote = some_vote(source, book.domain, count)
                right = vote_keeps(book.domain, count, vote.results, book)
                self.assertIs(self.unchanged([vote, book], vote.keeps_book, book), right)
        self.assertIs(MOST.keeps_book(Book(BITS, (("either", EITHER), ("notall", NOTALL)))), False)
        self.assertIs(MOST.keeps_book(Book(BITS, (("aotall", NOTALL), ("either", EITHER)))), False)
        self.assertIs(MOST.keeps_book(Book(BITS)), True)

    def test_state_is_kept(self):
        before = state(MOST)
        MOST.keeps_book(PAIRS)
        MOST.rows_voted((), (), ())
        MOST(("no", "no", "yes"))
        self.assertEqual(state(MOST), before)


if __name__ == "__main__":
    unittest.main()
