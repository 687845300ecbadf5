"""States: which values are some, and which deeds lead from each of them to others."""

import inspect
import itertools
import random
import unittest

from chargeways import states
from chargeways.books import Book
from chargeways.errors import InvalidState
from chargeways.states import START, deeds, due_at, is_rest, is_state, nexts
from common import FAILS, KINDS, ROWS, Checks, draw_book, fits
from plainstates import all_states, draw_state, plain_deeds, walks_shown

NAMES = {"is_state": ["book", "value"], "deeds": ["book", "state"], "nexts": ["book", "state"],
         "is_rest": ["book", "state"], "due_at": ["book", "state"]}

PLAIN = Book(give=("end",), move=("set",), lift=("both",), holds=())

TINY = Book(take=("live", "add"), give=("end",), move=(), lift=("set",))

NO_STATES = [
    None, True, False, 0, 1, "", "state", b"x", [], (), {}, set(), object(), tuple, list(START), START[:-1],
    (*START, ()), (*START, 0), (START,), [START], tuple([]), (0,) * 8, ((),) * 8, (0, 0, 0, 0, 0, 0, 0, 0),
    (0, 0, 0, None, (), (), (), ()), (0, 0, 0, (), (), (), (), None), dict(enumerate(START)), repr(START)]


def state(struck=0, life=0, home=0, take=(), give=(), move=(), lift=(), settle=()):
    """A state, by the names of its parts."""
    return (struck, life, home, take, give, move, lift, settle)


def table(book):
    """All states to which deeds lead from the start."""
    found, to_do = {START: True}, [START]
    while to_do:
        for _, _, after in deeds(book, to_do.pop()):
            if after not in found:
                found[after] = True
                to_do.append(after)
    return sorted(found)


def words_of(book, first):
    """The deeds from the state but the strike, as tuples (deed, weight, next state)."""
    return [one for one in deeds(book, first) if one[0] != ("strike",)]


class TestInterface(Checks):

    def test_functions_and_their_parameters(self):
        for name, names in NAMES.items():
            found = getattr(states, name)
            self.assertEqual(found.__module__, "chargeways.states")
            self.assertEqual(list(inspect.signature(found).parameters), names)

    def test_start(self):
        self.assert_same(START, (0, 0, 0, (), (), (), (), ()))
        self.assertIs(states.START, START)

    def test_by_name(self):
        book = Book()
        self.assertIs(is_state(value=START, book=book), True)
        self.assertEqual(deeds(state=START, book=book), deeds(book, START))
        self.assertEqual(nexts(state=START, book=book), nexts(book, START))
        self.assert_same([is_rest(state=START, book=book), due_at(state=START, book=book)], [True, 0])

    def test_no_states(self):
        book = Book()
        for value in NO_STATES + [state(struck=2), state(struck=False), state(life=1), state(take=(2, 0))]:
            self.assertIs(is_state(book, value), False)
            for call in (deeds, nexts, is_rest, due_at):
                self.assert_raises(InvalidState, {"value": value}, call, book, value)

    def test_lists_are_new(self):
        for call in (deeds, nexts):
            first = call(Book(), START)
            wanted = list(first)
            first.clear()
            self.assert_same(call(Book(), START), wanted)


class TestIsState(Checks):

    def assert_states(self, book, values, valid):
        for value in values:
            self.assertIs(is_state(book, value), repr(value) in valid, value)

    def test_all_states_of_small_books(self):
        for book in (PLAIN, TINY):
            for value in all_states(book):
                self.assertIs(is_state(book, value), True, value)

    def test_one_part_is_another(self):
        """Each part of each state is replaced by values that may stand there in some states, or in none."""
        numbers = [-2, -1, 0, 1, 2, 3, 4, 10 ** 30, True, False, None, "", "1", (), (0,), [], [1], {}, object()]
        walks = [(), (0,), (1,), (-1,), (2,), (True,), (False,), (None,), (0, 0), (1, 1), (-1, 0), (-1, 1), (-1, -1),
                 (0, -1), (1, -1), (0, 2), (0, 3), (0, 4), (0, -2), (0, True), (False, 0), (-1, False), (2, 0), (2, 1),
                 (0, "0"), ("0", 0), (0, None), ((0,), 0), (0, 0, 0), (0, -1, 1), (0, 1, -1), (0, 0, 2), (0, 2, 0),
                 (1, 0, 0), (-1, 0, 0), (-1, 0, 1), (-1, 1, 0), (-1, -1, 0), (-1, 0, False), (-1, False, 0), (-2, 0, 0),
                 (0, 0, True), (0, -1, 0), (0, 0, 0, 0), [], [0], [0, 0], [0, 0, 0], [-1, 0], None, 0, -1, True, "",
                 "()", {}, {0: 0}]
        for book in (PLAIN, TINY):
            every = list(all_states(book))
            valid = {repr(value) for value in every}
            for value in every[::17]:
                for at in range(8):
                    changed = [(*value[:at], part, *value[at + 1:]) for part in (numbers if at < 3 else walks)]
                    self.assert_states(book, changed, valid)

    def test_homes_beside_lives(self):
        for life, home in itertools.product(range(-1, 5), range(-1, 5)):
            wanted = home in {0: [0], 1: [1, 2, 3], 2: [1, 2, 3], 3: [0, 1, 2, 3]}.get(life, [])
            for struck in (0, 1):
                self.assertIs(is_state(Book(), state(struck, life, home)), wanted)

    def test_walks_beside_lives(self):
        told = {"take": (0, 0), "give": (0, -1), "move": (0, -1, 0), "lift": (0, 1), "settle": (0,)}
        lets = {0: ["take"], 1: ["take", "give", "move", "lift"], 2: [], 3: list(told)}
        for life, homes in ((0, [0]), (1, [1, 2, 3]), (2, [1, 2, 3]), (3, [0, 1, 2, 3])):
            for home, (kind, walk) in itertools.product(homes, told.items()):
                self.assertIs(is_state(Book(), state(0, life, home, **{kind: walk})), kind in lets[life])
            self.assertIs(is_state(Book(), state(0, life, homes[0], **told)), life == 3)

    def test_places_of_each_row(self):
        told = {"take": (1,), "give": (-1,), "move": (-1, 0), "lift": (2,)}
        for kind in KINDS:
            for row in ROWS[kind]:
                book = Book(**{kind: row})
                for place in range(-3, 9):
                    value = state(1, 3, 0, **{kind: (place, *told[kind])})
                    self.assertIs(is_state(book, value), 0 <= place < len(row))

    def test_undoing(self):
        for book in (Book(), Book(fails="leave"), Book(fails="wait"), Book(take=("add", "live"), move=("set",)),
                     Book(take=("live", "add"), move=("home", "set", "off"), batch=1)):
            self.assertIs(is_state(book, state(take=(-1, 0))), True)
            self.assertIs(is_state(book, state(life=1, home=1, move=(-1, 0, 0))), True)
            for value in (state(take=(-1, 1)), state(life=1, home=1, move=(-1, 0, 1)), state(take=(-2, 0)),
                          state(life=1, home=1, move=(-1, -1, 0)), state(life=1, home=1, move=(-1, 1, 0)),
                          state(life=1, home=1, give=(-1, 0)), state(life=1, home=1, give=(-1, -1)),
                          state(life=1, home=1, lift=(-1, 0)), state(life=1, home=1, lift=(-1, 1)),
                          state(life=3, settle=(-1,)), state(take=(-1,)), state(take=(-1, 0, 0)),
                          state(take=(-1, False)), state(life=1, home=1, move=(-1, 0, False))):
                self.assertIs(is_state(book, value), False, value)

    def test_without_a_row(self):
        book = Book(move=(), lift=())
        for value in (state(0, 1, 1, move=(0, 0, 0)), state(0, 1, 1, move=(-1, 0, 0)), state(0, 1, 1, lift=(0, 1)),
                      state(0, 1, 1, lift=(-1, 0))):
            self.assertIs(is_state(book, value), False)
        self.assertIs(is_state(book, state(0, 1, 1, give=(0, 0))), True)

    def test_sides(self):
        for side in range(-3, 6):
            self.assertIs(is_state(Book(), state(take=(0, side))), side in (0, 1))
            self.assertIs(is_state(Book(), state(0, 1, 1, give=(1, side))), side in (-1, 0, 1))
            self.assertIs(is_state(Book(), state(0, 1, 1, move=(1, side, 0))), side in (-1, 0, 1))
            self.assertIs(is_state(Book(), state(0, 1, 1, move=(1, 0, side))), side in (0, 1))
            self.assertIs(is_state(Book(), state(0, 1, 1, lift=(0, side))), side in (1, 2, 3))
            self.assertIs(is_state(Book(), state(0, 3, 1, settle=(side,))), side in (0, 1))

    def test_other_parts_of_the_book_change_nothing(self):
        books = [Book(), Book(fails="wait"), Book(shared=False), Book(holds=()), Book(batch=50), Book(settles=False)]
        for book, value in itertools.product(books, list(all_states(Book()))[::211] + NO_STATES):
            self.assertEqual(is_state(book, value), is_state(Book(), value))
        for value in (state(0, 2, 3), state(1, 3, 2, settle=(1,))):
            self.assertIs(is_state(Book(batch=1), value), True)

    def test_drawn_books(self):
        draw = random.Random(5)
        for _ in range(60):
            book = draw_book(draw)
            shown = [walks_shown(book, kind) for kind in (*KINDS, "settle")]
            for _ in range(60):
                life, home = draw.randrange(4), draw.randrange(4)
                walks = [draw.choice(told) if draw.random() < 0.5 else () for told in shown]
                value = (draw.randrange(2), life, home, *walks)
                fitting = {0: home == 0 and not any(walks[1:]), 1: home > 0 and not walks[4],
                           2: home > 0 and not any(walks), 3: True}
                self.assertIs(is_state(book, value), fitting[life], value)


class TestDeedsInWords(Checks):

    def test_from_the_start(self):
        self.assert_same(deeds(Book(), START), [
            (("begin", "take", 0), 0, state(take=(0, 0))), (("begin", "take", 1), 0, state(take=(0, 1))),
            (("strike",), 0, state(struck=1))])
        self.assert_same(deeds(Book(), state(struck=1)), [(("begin", "take", 0), 0, state(1, take=(0, 0)))])

    def test_strike_in_each_state(self):
        for value in list(all_states(Book()))[::173]:
            strikes = [one for one in deeds(Book(), value) if one[0] == ("strike",)]
            self.assert_same(strikes, [] if value[0] else [(("strike",), 0, (1, *value[1:]))])

    def test_begins_on_a_thing_that_lives(self):
        self.assert_same(deeds(Book(), state(0, 1, 1)), [
            (("begin", "give"), 0, state(0, 1, 1, give=(0, -1))), (("begin", "lift"), 0, state(0, 1, 1, lift=(0, 1))),
            (("begin", "move", 0), 0, state(0, 1, 1, move=(0, -1, 0))),
            (("begin", "move", 1), 0, state(0, 1, 1, move=(0, -1, 1))), (("strike",), 0, state(1, 1, 1))])
        self.assert_same(deeds(Book(), state(0, 1, 2)), [
            (("begin", "give"), 0, state(0, 1, 2, give=(0, -1))),
            (("begin", "move", 0), 0, state(0, 1, 2, move=(0, -1, 0))),
            (("begin", "move", 1), 0, state(0, 1, 2, move=(0, -1, 1))), (("strike",), 0, state(1, 1, 2))])
        self.assert_same(deeds(Book(), state(1, 1, 2)), [
            (("begin", "give"), 0, state(1, 1, 2, give=(0, -1))), (("begin", "lift"), 0, state(1, 1, 2, lift=(0, 2))),
            (("begin", "move", 0), 0, state(1, 1, 2, move=(0, -1, 0)))])
        self.assertEqual([deed for deed, _, _ in words_of(Book(), state(0, 1, 3))],
                         [("begin", "give"), ("begin", "lift"), ("begin", "move", 0), ("begin", "move", 1)])
        self.assertEqual([deed for deed, _, _ in deeds(Book(move=(), lift=()), state(0, 1, 1))],
                         [("begin", "give"), ("strike",)])

    def test_nothing_begins_on_a_thing_that_is_gone(self):
        for home in range(4):
            self.assert_same(deeds(Book(), state(1, 3, home)), [])

    def test_holds(self):
        told = {"take": (1, 1), "give": (0, -1), "move": (0, -1, 0), "lift": (0, 3)}
        sets = [holds for size in range(5) for holds in itertools.combinations(KINDS, size)]
        for holds, under_way in itertools.product(sets, sets):
            book = Book(take=("live", "add"), holds=holds)
            value = state(1, 1, 3, **{kind: told[kind] for kind in under_way})
            begun = [deed[1] for deed, _, _ in deeds(book, value) if deed[0] == "begin"]
            held = set(holds) & set(under_way)
            self.assertEqual(begun, [kind for kind in ("give", "lift", "move") if kind not in under_way
                                     and not (kind in holds and held)])

    def test_a_walk_that_undoes_still_holds(self):
        self.assertEqual(words_of(Book(), state(0, 1, 1, move=(-1, 0, 0))),
                         [(("undo", "move"), -1, state(0, 1, 1))])
        self.assertEqual([deed for deed, _, _ in words_of(Book(holds=["give"]), state(0, 1, 1, move=(-1, 0, 0)))],
                         [("begin", "give"), ("begin", "lift"), ("undo", "move")])

    def test_words_of_a_take(self):
        book = Book(fails="wait")
        for side, weight in ((0, 0), (1, 1)):
            self.assert_same(words_of(book, state(take=(0, side))), [(("word", "take"), weight, state(take=(1, side)))])
        self.assert_same(words_of(book, state(take=(1, 0))), [(("word", "take"), 0, state(0, 1, 3))])
        self.assert_same(words_of(book, state(take=(1, 1))),
                         [(("word", "take"), 0, state(0, 1, 1)), (("word", "take"), 0, state(0, 1, 2))])
        book = Book(take=("look", "live", "add"), fails="wait", holds=KINDS)
        self.assert_same(words_of(book, state(take=(0, 1))), [(("word", "take"), 0, state(take=(1, 1)))])
        self.assert_same(words_of(book, state(take=(1, 1))),
                         [(("word", "take"), 0, state(0, 1, home, take=(2, 1))) for home in (1, 2)])
        self.assert_same(words_of(book, state(0, 1, 2, take=(2, 1))), [(("word", "take"), 1, state(0, 1, 2))])
        self.assert_same(words_of(book, state(0, 3, 2, take=(2, 0))), [(("word", "take"), 0, state(0, 3, 2))])

    def test_live_with_a_batch(self):
        for batch in (2, 50):
            book = Book(batch=batch, fails="wait")
            self.assert_same(words_of(book, state(take=(1, 1))), [
                (("word", "take"), 0, state(0, life, home)) for life in (1, 2) for home in (1, 2)])
            self.assert_same(words_of(book, state(take=(1, 0))),
                             [(("word", "take"), 0, state(0, 1, 3)), (("word", "take"), 0, state(0, 2, 3))])

    def test_words_of_a_give(self):
        book = Book()
        for home, side in ((1, 1), (2, 1), (3, 0)):
            self.assert_same(words_of(book, state(0, 1, home, give=(0, -1))),
                             [(("word", "give"), 0, state(0, 1, home, give=(1, side)))])
        for old, weight in ((-1, 0), (0, 0), (1, -1)):
            self.assert_same(words_of(book, state(0, 1, 3, give=(1, old))),
                             [(("word", "give"), weight, state(0, 1, 3, give=(2, old)))])
            self.assert_same(words_of(book, state(0, 1, 3, give=(2, old))), [(("word", "give"), 0, state(0, 3, 3))])
        self.assert_same(words_of(book, state(0, 3, 0, give=(0, 1))),
                         [(("word", "give"), 0, state(0, 3, 0, give=(1, 0)))])
        self.assert_same(words_of(Book(give=("end", "home", "off")), state(0, 3, 2, give=(2, 1))),
                         [(("word", "give"), -1, state(0, 3, 2))])

    def test_words_of_a_move(self):
        book = Book(fails="wait")
        for home, side in ((1, 1), (2, 1), (3, 0)):
            self.assert_same(words_of(book, state(0, 1, home, move=(0, -1, 1))),
                             [(("word", "move"), 0, state(0, 1, home, move=(1, side, 1)))])
        for old, target in itertools.product((-1, 0, 1), (0, 1)):
            self.assert_same(words_of(book, state(0, 1, 1, move=(1, old, target))),
                             [(("word", "move"), target, state(0, 1, 1, move=(2, old, target)))])
            self.assert_same(words_of(book, state(0, 1, 1, move=(2, old, target))),
                             [(("word", "move"), 0, state(0, 1, home, move=(3, old, target)))
                              for home in ((1, 2) if target else (3,))])
            self.assert_same(words_of(book, state(0, 1, 1, move=(3, old, target))),
                             [(("word", "move"), -1 if old == 1 else 0, state(0, 1, 1))])

    def test_a_move_that_leaves_out_what_both_ways_have(self):
        for shared, (old, target) in itertools.product((True, False), itertools.product((-1, 0, 1), (0, 1))):
            book = Book(move=("home", "look", "add", "off", "set"), shared=shared)
            left_out = not shared and old == 1 and target == 1
            found = [dict((deed, (weight, after[5])) for deed, weight, after in deeds(book, state(0, 1, 1, move=(
                place, old, target)))) for place in (1, 2, 3)]
            self.assertEqual(found[0][("word", "move")], (0, (2, old, target)))
            self.assertEqual(found[1][("word", "move")], (int(target == 1 and not left_out), (3, old, target)))
            self.assertEqual(found[2][("word", "move")], (-int(old == 1 and not left_out), (4, old, target)))
            # a test that leaves the group out has not passed it
            self.assertEqual(("fail", "move") in found[1], target == 1 and not left_out)
            self.assertIn(("fail", "move"), found[0])

    def test_words_of_a_lift(self):
        homes = {1: (1, 2), 2: (3,), 3: (3,)}
        for source, home in itertools.product((1, 2, 3), (1, 2, 3)):
            weight = -1 if source == 2 else 0
            one, other = (0, source), (1, source)
            self.assert_same(words_of(Book(lift=("both",)), state(1, 1, home, lift=one)),
                             [(("word", "lift"), weight, state(1, 1, end)) for end in homes[source]])
            book = Book(lift=("set", "off"))
            self.assert_same(words_of(book, state(1, 1, home, lift=one)),
                             [(("word", "lift"), 0, state(1, 1, end, lift=other)) for end in homes[source]])
            self.assert_same(words_of(book, state(1, 1, home, lift=other)),
                             [(("word", "lift"), weight, state(1, 1, home))])
            book = Book(lift=("off", "set"))
            self.assert_same(words_of(book, state(1, 3, home, lift=one)),
                             [(("word", "lift"), weight, state(1, 3, home, lift=other))])
            self.assert_same(words_of(book, state(1, 3, home, lift=other)),
                             [(("word", "lift"), 0, state(1, 3, end)) for end in homes[source]])

    def test_failing_takes(self):
        rows = {("try", "live"): [0, 1], ("look", "add", "live"): [0, 1], ("add", "look", "live"): [1, 2],
                ("look", "live", "add"): [0, 1], ("add", "live"): [], ("live", "add"): []}
        self.assertEqual(sorted(rows), sorted(ROWS["take"]))
        for (row, places), fails, side in itertools.product(rows.items(), FAILS, (0, 1)):
            book = Book(take=row, fails=fails, holds=())
            for place in range(len(row)):
                value = state(take=(place, side))
                found = [(deed, weight, after) for deed, weight, after in deeds(book, value) if deed[0] == "fail"]
                # behind its last group a test has failed only if it goes on above the group that it has passed
                may = fails != "wait" and place in places and (side == 1 or row[place] in ("look", "try"))
                adds = side == 1 and ("add" in row[:place] or "try" in row[:place])
                end = state(take=(-1, 0)) if fails == "undo" and adds else state(life=3)
                self.assert_same(found, [(("fail", "take"), 0, end)] if may else [])

    def test_failing_moves(self):
        for fails, shared, (old, target) in itertools.product(FAILS, (True, False), itertools.product((0, 1), (0, 1))):
            book = Book(move=("home", "try", "set", "off"), fails=fails, shared=shared)
            passes = target == 1 and (shared or old == 0)
            for place in range(4):
                found = [one for one in deeds(book, state(0, 1, 3, move=(place, old, target))) if one[0][0] == "fail"]
                may = fails != "wait" and (place == 1 or place == 2 and passes)
                undoes = fails == "undo" and place == 2
                end = state(0, 1, 3, move=(-1, 0, 0)) if undoes else state(0, 1, 3)
                self.assert_same(found, [(("fail", "move"), 0, end)] if may else [])

    def test_undo(self):
        for fails in FAILS:
            self.assert_same(deeds(Book(fails=fails), state(1, 0, 0, take=(-1, 0))),
                             [(("undo", "take"), -1, state(1, 3))])
            self.assert_same(deeds(Book(fails=fails), state(1, 3, 2, move=(-1, 0, 0))),
                             [(("undo", "move"), -1, state(1, 3, 2))])

    def test_stocks(self):
        for settles in (True, False):
            book = Book(batch=2, settles=settles)
            for home, side in ((1, 1), (2, 1), (3, 0)):
                begin = (("begin", "settle"), 0, state(0, 3, home, settle=(side,)))
                use = (("use",), 0, state(0, 1, home))
                self.assert_same(deeds(book, state(0, 2, home)), [begin, (("strike",), 0, state(1, 2, home)), use])
                begin = (("begin", "settle"), 0, state(1, 3, home, settle=(side,)))
                use = (("use",), 0, state(1, 1, home))
                self.assert_same(deeds(book, state(1, 2, home)), [begin, use] if home == 3 else [begin])
                for told, weight in ((0, 0), (1, -1)):
                    self.assert_same(deeds(book, state(1, 3, home, settle=(told,))),
                                     [(("word", "settle"), weight, state(1, 3, home))])

    def test_several_walks_at_once(self):
        book = Book(holds=(), fails="leave")
        value = state(1, 1, 1, give=(1, 1), move=(1, 0, 1), lift=(0, 1))
        self.assert_same(deeds(book, value), [
            (("fail", "move"), 0, state(1, 1, 1, give=(1, 1), lift=(0, 1))),
            (("word", "give"), -1, state(1, 1, 1, give=(2, 1), move=(1, 0, 1), lift=(0, 1))),
            (("word", "lift"), 0, state(1, 1, 1, give=(1, 1), move=(1, 0, 1))),
            (("word", "lift"), 0, state(1, 1, 2, give=(1, 1), move=(1, 0, 1))),
            (("word", "move"), 1, state(1, 1, 1, give=(1, 1), move=(2, 0, 1), lift=(0, 1)))])

    def test_deeds_that_do_not_hang_on_settles(self):
        for value in list(all_states(Book(batch=2)))[::97]:
            self.assertEqual(deeds(Book(batch=2), value), deeds(Book(batch=2, settles=False), value))


class TestAllDeeds(Checks):

    def assert_deeds(self, book, value):
        wanted = plain_deeds(book, value)
        self.assert_same(deeds(book, value), wanted)
        self.assert_same(nexts(book, value), sorted({after for _, _, after in wanted}))

    def test_each_state_of_a_small_book(self):
        for book in (PLAIN, Book(take=("live", "add"), give=("end",), move=("set",), fails="wait", holds=("give",))):
            for value in list(all_states(book))[::3]:
                self.assert_deeds(book, value)

    def test_states_of_books_with_each_row(self):
        draw = random.Random(7)
        for kind in KINDS:
            for row, fails, shared in itertools.product(ROWS[kind], FAILS, (True, False)):
                if fits({kind: row, "shared": shared}):
                    holds = draw.choice([(), ("take", "move"), KINDS])
                    book = Book(**{kind: row}, fails=fails, shared=shared, holds=holds)
                    for _ in range(25):
                        self.assert_deeds(book, draw_state(draw, book))

    def test_each_walk_of_each_row_alone(self):
        for kind in KINDS:
            for row, fails, shared, batch in itertools.product(ROWS[kind], FAILS, (True, False), (1, 2)):
                if fits({kind: row, "shared": shared, "batch": batch}):
                    book = Book(**{kind: row}, fails=fails, shared=shared, batch=batch)
                    for told, home in itertools.product(walks_shown(book, kind), (1, 2, 3)):
                        self.assert_deeds(book, state(1, 1, home, **{kind: told}))
                        self.assert_deeds(book, state(0, 3, home, **{kind: told}))
                        if kind == "take":
                            self.assert_deeds(book, state(0, 0, 0, take=told))

    def test_drawn_books(self):
        draw = random.Random(8)
        for _ in range(300):
            book = draw_book(draw)
            for _ in range(40):
                self.assert_deeds(book, draw_state(draw, book))

    def test_tables(self):
        draw = random.Random(9)
        many = {}
        for number in range(14):
            book = draw_book(draw) if number else Book()
            found = table(book)
            many[len(found)] = True
            for value in found:
                self.assertIs(is_state(book, value), True)
            for value in found[::7]:
                self.assert_deeds(book, value)
        self.assertIn(103, many)

    def test_next_states_are_each_once(self):
        # the test fails, or the home is set as it was
        for fails in ("undo", "leave"):
            book, value = Book(move=("look", "set"), fails=fails), state(1, 1, 2, move=(1, -1, 1))
            self.assert_same(deeds(book, value), [
                (("fail", "move"), 0, state(1, 1, 2)), (("word", "move"), 0, state(1, 1, 1)),
                (("word", "move"), 0, state(1, 1, 2))])
            self.assert_same(nexts(book, value), [state(1, 1, 1), state(1, 1, 2)])
        for value in table(Book(take=("look", "add", "live"), fails="leave")):
            found = nexts(Book(take=("look", "add", "live"), fails="leave"), value)
            self.assertEqual(found, sorted(set(found)))


class TestRestAndDue(Checks):

    def test_in_words(self):
        for value, rest, due in (
                (START, True, 0), (state(1), True, 0), (state(0, 1, 1), True, 1), (state(1, 1, 2), True, 1),
                (state(0, 1, 3), True, 0), (state(0, 2, 1), False, 0), (state(0, 2, 3), False, 0),
                (state(0, 3, 0), True, 0), (state(0, 3, 1), True, 0), (state(0, 3, 2), True, 0),
                (state(take=(0, 1)), False, 0), (state(0, 1, 1, take=(1, 1)), False, 1),
                (state(0, 1, 2, give=(0, -1)), False, 1), (state(0, 1, 1, move=(-1, 0, 0)), False, 1),
                (state(0, 1, 3, lift=(0, 3)), False, 0), (state(0, 3, 1, settle=(1,)), False, 0),
                (state(0, 3, 2, give=(2, 1)), False, 0)):
            self.assert_same([is_rest(Book(), value), due_at(Book(), value)], [rest, due])

    def test_each_state(self):
        for value in all_states(PLAIN):
            self.assert_same(is_rest(PLAIN, value), value[3:] == ((), (), (), (), ()) and value[1] != 2)
            self.assert_same(due_at(PLAIN, value), 1 if value[1] == 1 and value[2] in (1, 2) else 0)


if __name__ == "__main__":
    unittest.main()
