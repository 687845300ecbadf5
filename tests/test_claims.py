"""Claims and papers: which values are claims, which of them are true, and what shows it."""

import copy
import inspect
import itertools
import random
import unittest

from books import books_with_each_row, kept_books
from chargeways import claims
from chargeways.badruns import bad_run, is_bad_run
from chargeways.books import Book
from chargeways.claims import is_paper, is_true, paper_for
from chargeways.errors import InvalidClaim, TooMany, Untrue
from chargeways.forms import crowd, is_crowd, most_above
from chargeways.runs import Run
from chargeways.tables import are_numbers, keeps, numbers
from chargeways.texts import line_of, read_deed, text_of
from chargeways.traps import are_ranks, is_sure, is_trap, ranks, trap
from common import NO_INTEGERS, NO_LISTS, Checks, draw_book
from drawn import answer, draw_deed
from test_forms import APART, NO_ENDS, has_a_crowd, plain_form
from test_tables import HUGE, LOOSE, NO_NUMBERS
from test_texts import NO_LINES, NO_STRINGS, PLAIN, text
from test_traps import NO_RANKS, STAYS, WAITS

NAMES = {"is_paper": ["claim", "value"], "is_true": ["claim"], "paper_for": ["claim"]}

WISHES = ("once", "kept", "free", "gone")

DEEDS = [("group", 0), ("take", 0, 1), ("step", 0), ("step", 0)]

TOO_MANY = {"what": "states", "limit": 4000}


def lines(deeds):
    return [line_of(deed) for deed in deeds]


def keeps_claim(book, wish, word="keeps"):
    return {"claim": word, "book": text_of(book), "wish": wish}


def above(book, hands, most):
    return {"claim": "above", "book": text_of(book), "hands": hands, "most": most}


def endless(book):
    return {"claim": "endless", "book": text_of(book)}


def counts(book, deeds, group, count):
    return {"claim": "counts", "book": text_of(book), "deeds": lines(deeds), "group": group, "count": count}


def keeps_wish(book, wish):
    return keeps(book, wish) if wish in ("once", "kept") else is_sure(book, wish)


def good_claims():
    """A claim of each sort, true and untrue, for each wish."""
    found = [keeps_claim(book, wish, word) for book in (Book(), WAITS, STAYS) for wish in WISHES
             for word in ("keeps", "breaks")]
    found += [keeps_claim(LOOSE, wish, word) for wish in ("once", "kept") for word in ("keeps", "breaks")]
    found += [above(APART, 3, most) for most in (10, 11)] + [above(NO_ENDS[0], 3, 0), above(Book(), 20, 0)]
    found += [endless(APART), endless(NO_ENDS[0])]
    found += [counts(Book(), DEEDS, group, count) for group, count in ((0, 1), (1, 1), (1, 0), (2, 0), (0, -1))]
    return found + [counts(Book(), DEEDS + [("step", 9)], 0, 1), counts(Book(), [], 0, 0)]


class ClaimChecks(Checks):

    def calls(self, value):
        return [lambda: is_true(value), lambda: paper_for(value), lambda: is_paper(value, None),
                lambda: is_paper(value, [])]

    def assert_no_claim(self, value):
        for call in self.calls(value):
            self.assert_raises(InvalidClaim, {"value": value}, call)

    def assert_claim(self, claim, wanted):
        """The claim is a claim, and true or not; the paper for it is one, and none is told of what is not true."""
        kept = copy.deepcopy(claim)
        self.assert_same(is_true(claim), wanted)
        if not wanted:
            self.assert_raises(Untrue, {}, paper_for, claim)
            self.assertIs(is_paper(claim, None), False)
            self.assertIs(is_paper(claim, []), False)
            return None
        paper = paper_for(claim)
        held = repr(paper)
        self.assertIs(is_paper(claim, paper), True)
        self.assert_same([repr(paper), claim], [held, kept])
        return paper


class TestInterface(ClaimChecks):

    def test_functions_and_their_parameters(self):
        for name, names in NAMES.items():
            found = getattr(claims, name)
            self.assertEqual(found.__module__, "chargeways.claims")
            self.assertEqual(list(inspect.signature(found).parameters), names)

    def test_by_name(self):
        claim = keeps_claim(Book(), "kept")
        paper = paper_for(claim=claim)
        self.assert_same([is_true(claim=claim), is_paper(value=paper, claim=claim)], [True, True])

    def test_papers_are_new(self):
        for claim in good_claims():
            if is_true(claim) and isinstance(paper_for(claim), list):
                first = paper_for(claim)
                wanted = list(first)
                first.clear()
                self.assertEqual(paper_for(claim), wanted)


class TestWhatIsAClaim(ClaimChecks):

    def test_good_ones(self):
        for claim in good_claims():
            self.assert_claim(claim, is_true(claim))
            self.assert_claim(dict(reversed(list(claim.items()))), is_true(claim))

    def test_values_that_are_no_dicts(self):
        claim = endless(Book())
        for value in [None, True, 0, "", "endless", b"", [], list(claim.items()), tuple(claim.items()), set(claim), (),
                      object(), len, [claim], {}, {"claim": "endless"}, {"book": text_of(Book())}, iter(claim), {0: claim}]:
            self.assert_no_claim(value)

    def test_keys(self):
        for claim in good_claims():
            for key in claim:
                self.assert_no_claim({name: claim[name] for name in claim if name != key})
                self.assert_no_claim({(name + " " if name == key else name): claim[name] for name in claim})
                self.assert_no_claim({(name.upper() if name == key else name): claim[name] for name in claim})
            for more in ({"wish": "once"}, {"hands": 3}, {"": 0}, {None: None}, {0: 0}, {"paper": None}, {True: 1}):
                if not set(more) <= set(claim):
                    self.assert_no_claim({**claim, **more})

    def test_words(self):
        for claim in good_claims():
            for word in ("", "Keeps", "keep", "is", None, True, 0, ["keeps"], ("keeps",), {"keeps": 1}, b"keeps", object()):
                self.assert_no_claim({**claim, "claim": word})
            for word in ("keeps", "breaks", "above", "endless", "counts"):
                if word != claim["claim"] and {word, claim["claim"]} != {"keeps", "breaks"}:
                    self.assert_no_claim({**claim, "claim": word})

    def test_texts(self):
        for claim in good_claims():
            for value in NO_STRINGS + ["", text(PLAIN[:7]), text(PLAIN)[:-1], text(PLAIN) + "\n", text(PLAIN[::-1]),
                                       text(["take live add"] + PLAIN[1:6] + ["batch 2", PLAIN[7]])]:
                self.assert_no_claim({**claim, "book": value})

    def test_wishes(self):
        for word in ("keeps", "breaks"):
            for wish in ["", "Once", "once ", None, True, 0, ["once"], ("once",), {"once": 1}, b"once", "held", object()]:
                self.assert_no_claim({**keeps_claim(Book(), "once", word), "wish": wish})

    def test_free_and_gone_only_of_books_that_keep_the_other_two(self):
        for book in (LOOSE, Book(move=("set",)), Book(give=("end",)), Book(fails="leave")):
            for word, wish in itertools.product(("keeps", "breaks"), ("free", "gone")):
                self.assert_no_claim(keeps_claim(book, wish, word))
        for wish in WISHES:
            for word in ("keeps", "breaks"):
                self.assert_claim(keeps_claim(Book(), wish, word), word == "keeps")

    def test_too_many_states(self):
        for word, wish in itertools.product(("keeps", "breaks"), WISHES):
            claim = keeps_claim(HUGE, wish, word)
            for call in (is_true, paper_for):
                self.assert_raises(TooMany, TOO_MANY, call, claim)
            if wish in ("free", "gone"):
                self.assert_raises(TooMany, TOO_MANY, is_paper, claim, None)
                self.assert_no_claim({**claim, "more": 1})
            else:
                # neither numbers nor bad runs need the table
                self.assertIs(is_paper(claim, []), False)
        for claim, wanted in ((endless(HUGE), False), (above(HUGE, 1, 1), True), (above(HUGE, 1, 0), False),
                              (counts(HUGE, [], 0, 0), True)):
            self.assert_claim(claim, wanted)

    def test_hands_and_most(self):
        for hands in NO_INTEGERS + [0, -1, 21, 100, 10 ** 39]:
            self.assert_no_claim({**above(APART, 3, 11), "hands": hands})
        for most in NO_INTEGERS + [-1, -(10 ** 39)]:
            self.assert_no_claim({**above(APART, 3, 11), "most": most})
        self.assert_claim(above(APART, 3, 10 ** 39), False)
        self.assert_claim(above(NO_ENDS[0], 3, 11), False)

    def test_groups_and_counts(self):
        for group in NO_INTEGERS + [-1, -(10 ** 39)]:
            self.assert_no_claim({**counts(Book(), DEEDS, 1, 1), "group": group})
        for count in NO_INTEGERS:
            self.assert_no_claim({**counts(Book(), DEEDS, 1, 1), "count": count})
        for group, count in ((10 ** 39, 0), (1, 10 ** 39), (1, -(10 ** 39)), (2, 0), (200, 0)):
            self.assert_claim(counts(Book(), DEEDS, group, count), False)

    def test_lines(self):
        claim = counts(Book(), DEEDS, 1, 1)
        for value in NO_LISTS + ["group 0"]:
            self.assert_no_claim({**claim, "deeds": value})
        for line in NO_LINES + NO_STRINGS + [("group", 0)]:
            for value in ([line], claim["deeds"] + [line], [line] + claim["deeds"], (line,)):
                self.assert_no_claim({**claim, "deeds": value})
        self.assert_claim({**claim, "deeds": tuple(claim["deeds"])}, True)


class TestTruth(ClaimChecks):

    def test_wishes(self):
        books = kept_books(61, 25) + [Book(), WAITS, STAYS, LOOSE] + list(books_with_each_row(62, 250))[::4]
        seen = {}
        for book in books:
            both = keeps(book, "once") and keeps(book, "kept")
            for wish in WISHES if both else WISHES[:2]:
                wanted = keeps_wish(book, wish)
                papers = {word: self.assert_claim(keeps_claim(book, wish, word), wanted == (word == "keeps"))
                          for word in ("keeps", "breaks")}
                self.assert_paper(book, wish, wanted, papers["keeps" if wanted else "breaks"])
                seen[wish, wanted] = seen.get((wish, wanted), 0) + 1
        self.assertEqual(len(seen), 8)

    def assert_paper(self, book, wish, kept, paper):
        """The paper is one by the words of point 93."""
        if kept:
            self.assertTrue((are_numbers if wish in ("once", "kept") else are_ranks)(book, wish, paper))
        elif wish in ("once", "kept"):
            self.assertIsInstance(paper, list)
            self.assertTrue(is_bad_run(book, wish, [read_deed(line) for line in paper]))
        else:
            self.assertIsInstance(paper, tuple)
            self.assertIsInstance(paper[0], list)
            self.assertTrue(is_trap(book, wish, ([read_deed(line) for line in paper[0]], *paper[1:])))

    def test_above(self):
        draw = random.Random(63)
        for book in [APART, Book(), Book(take=("add", "look", "live"), batch=50)] + [draw_book(draw) for _ in range(60)]:
            for hands in {1, 2, draw.randrange(3, 21)}:
                most = most_above(book, hands)
                for number in (0, 1, 5, (most or 0) + 1, most):
                    if number is None or number == most and not has_a_crowd(book, hands):
                        continue
                    paper = self.assert_claim(above(book, hands, number), number == most)
                    if paper is not None:
                        self.assertTrue(is_crowd(book, hands, [read_deed(line) for line in paper]))

    def test_endless(self):
        draw = random.Random(64)
        for book in NO_ENDS + [APART, Book()] + [draw_book(draw) for _ in range(80)]:
            wanted = plain_form(book) is None
            self.assertIsNone(self.assert_claim(endless(book), wanted))
            for value in (0, False, [], (), "", "none", {}, [None]):
                self.assertIs(is_paper(endless(book), value), False)

    def test_counts(self):
        draw = random.Random(65)
        for _ in range(40):
            run = Run(draw_book(draw))
            for _ in range(60):
                answer(run, draw_deed(draw, run, wrong=0))
            group = draw.randrange(len(run.tree))
            for count in (run.count(group), run.count(group) + 1, 0):
                claim = counts(run.book, run.log(), group, count)
                self.assertIsNone(self.assert_claim(claim, count == run.count(group)))
                for value in (0, False, [], (), "", "none", {}, [None], claim["deeds"]):
                    self.assertIs(is_paper(claim, value), False)
            self.assert_claim(counts(run.book, run.log(), len(run.tree), 0), False)
            self.assert_claim(counts(run.book, run.log() + [("group", 250)], group, run.count(group)), False)

    def test_counts_with_steps_that_wait(self):
        deeds = [("limit", 0, 0), ("take", 0, 0), ("step", 0), ("step", 0)]
        for fails, count in (("wait", 0), ("undo", None), ("leave", None)):
            self.assert_claim(counts(Book(fails=fails), deeds, 0, 0), count == 0)


class TestPapers(ClaimChecks):

    def test_one_for_another_wish(self):
        for book in (Book(), WAITS, STAYS):
            claim = {wish: keeps_claim(book, wish, "keeps" if keeps_wish(book, wish) else "breaks") for wish in WISHES}
            papers = {wish: paper_for(claim[wish]) for wish in WISHES}
            for first, second in itertools.product(WISHES[:2], WISHES[2:]):
                for wish, other in ((first, second), (second, first)):
                    self.assertIs(is_paper(claim[wish], papers[wish]), True)
                    self.assertIs(is_paper(claim[wish], papers[other]), False)

    def test_numbers_and_ranks_are_none_against_a_wish(self):
        for wish in WISHES[:2]:
            found = numbers(Book(), wish)
            self.assert_same([is_paper(keeps_claim(Book(), wish), found), is_paper(keeps_claim(Book(), wish, "breaks"), found),
                              is_paper(keeps_claim(Book(), wish), tuple(found))], [True, False, True])
            for at in range(0, len(found), 9):
                state, number = found[at]
                spoilt = found[:at] + [(state, number + 1)] + found[at + 1:]
                self.assert_same(is_paper(keeps_claim(Book(), wish), spoilt), are_numbers(Book(), wish, spoilt))
            for value in NO_NUMBERS:
                self.assertIs(is_paper(keeps_claim(Book(), wish), value), False)
        for wish in WISHES[2:]:
            found = ranks(Book(), wish)
            self.assert_same([is_paper(keeps_claim(Book(), wish), found), is_paper(keeps_claim(Book(), wish, "breaks"), found),
                              is_paper(keeps_claim(Book(), wish), tuple(found))], [True, False, True])
            for value in NO_RANKS:
                self.assertIs(is_paper(keeps_claim(Book(), wish), value), False)

    def test_bad_runs_by_their_lines(self):
        claim, deeds = keeps_claim(LOOSE, "kept", "breaks"), bad_run(LOOSE, "kept")
        told = lines(deeds)
        self.assert_same([is_paper(claim, told), is_paper(claim, tuple(told)), is_paper(claim, deeds),
                          is_paper(claim, "\n".join(told)), is_paper(claim, told[:-1]), is_paper(claim, [told]),
                          is_paper(keeps_claim(LOOSE, "once", "breaks"), told), is_paper(keeps_claim(LOOSE, "kept"), told)],
                         [True, True] + [False] * 6)
        for at in range(len(told)):
            for line in [told[at] + " ", told[at].replace(" ", "  "), told[at].upper(), deeds[at], None, 0, "", "none"]:
                self.assertIs(is_paper(claim, told[:at] + [line] + told[at + 1:]), False)
            for spoilt in (told[:at] + told[at + 1:], told[:at] + [told[at]] + told[at:]):
                self.assertIs(is_paper(claim, spoilt), is_bad_run(LOOSE, "kept", [read_deed(line) for line in spoilt]))
        for value in NO_LISTS:
            self.assertIs(is_paper(claim, value), False)

    def test_traps_by_their_lines(self):
        for book, wish in ((WAITS, "free"), (STAYS, "gone")):
            claim, (deeds, group, unit, pairs) = keeps_claim(book, wish, "breaks"), trap(book, wish)
            told = lines(deeds)
            good = [(told, group, unit, pairs), (tuple(told), group, unit, tuple(pairs))]
            self.assertTrue(all(is_paper(claim, value) for value in good))
            for value in [(deeds, group, unit, pairs), [told, group, unit, pairs], (told, group, unit), told, (), None, [],
                          (told, group, unit, pairs, 0), (told, 0, unit, pairs), (told, group, None, pairs), 0, "",
                          (told, group, unit, []), (told[:-1] + ["x"], group, unit, pairs), (None, group, unit, pairs),
                          (told, group, unit, [list(pair) for pair in pairs]), ("\n".join(told), group, unit, pairs),
                          (told + [("step", 0)], group, unit, pairs), (told, str(group), unit, pairs), (told,)]:
                self.assertIs(is_paper(claim, value), False, value)
            self.assertIs(is_paper(keeps_claim(book, wish), good[0]), False)

    def test_crowds_by_their_lines(self):
        found = crowd(APART, 3)
        told = lines(found)
        self.assert_same([is_paper(above(APART, hands, most), told) for hands, most in ((3, 11), (3, 10), (2, 11), (2, 6),
                                                                                       (4, 16), (4, 11))],
                         [True, False, False, False, False, False])
        self.assert_same([is_paper(above(APART, 3, 11), value) for value in (tuple(told), found, told[:-1], None, [])],
                         [True, False, False, False, False])
        # a full group is a crowd for more hands as well
        self.assertIs(is_paper(above(Book(), 7, 0), lines(crowd(Book(), 1))), True)
        for value in NO_LISTS + [[line] for line in NO_LINES]:
            self.assertIs(is_paper(above(APART, 3, 11), value), False)
            self.assertIs(is_paper(above(NO_ENDS[0], 3, 11), value), False)


if __name__ == "__main__":
    unittest.main()
