"""Texts of books and lines of deeds: written, read, and refused with the first line that is wrong."""

import inspect
import itertools
import random
import unittest

from chargeways import texts
from chargeways.books import Book
from chargeways.errors import InvalidDeed, InvalidText
from chargeways.texts import line_of, read_book, read_deed, text_of
from common import FAILS, KINDS, ROWS, Checks, draw_book, fits
from test_logs import NO_DEEDS

NAMES = {"text_of": ["book"], "read_book": ["text"], "line_of": ["deed"], "read_deed": ["line"]}

PLAIN = ["take try live", "give home off end", "move home try set off", "lift both", "fails undo",
         "holds take give move lift", "batch 1", "shared settles"]

NO_STRINGS = [None, True, False, 0, 1, 8, b"", b"take try live\n", [], [PLAIN], PLAIN, tuple(PLAIN), {}, {"take": 1},
              set(), object(), len, Book(), str]

NO_LINES = ["", " ", "\n", "group", "group ", " group 0", "group 0 ", "group  0", "group 0\n", "\ngroup 0", "group 0 0",
            "group 00", "group 01", "group -0", "group -01", "group +1", "group 1.0", "group 1e3", "group 0x1",
            "group --1", "group -", "group none", "group None", "group true", "group a", "group 1a", "group a1", "Group 0",
            "GROUP 0", "groups 0", "group\t0", "group,0", "group 1_0", "group 0 none", "0 group", "0", "none",
            "limit 0", "limit 0 None", "limit 0 nonee", "limit none 0", "limit none none", "limit 0 none none",
            "limit 0 0 0", "limit 0 ''", "limit 0 ", "limit 00 none", "limit 0 -0", "strike", "strike none",
            "strike 1 1", "take 0", "take 0 none", "take none 0", "take 0 0 0", "give 0", "give 0 0 0", "give 0 none",
            "move 0 0", "move 0 0 0 0", "move 0 0 none", "lift 0", "lift 0 0 0", "lift none 0", "settle 0",
            "settle 0 none", "settle 0 0 0", "step", "step 0 0", "step none", "step 0 step 0", "step 0\nstep 0",
            "count 0", "due 0", "home 0", "stock 0", "work", "undo", "new_group 0", "try 0", "('step', 0)", "step (0)",
            "take take 0", "both 0", "settles 0 0"]


def text(lines):
    return "".join(line + "\n" for line in lines)


def plain_text(parts):
    """The text of the book with these parts, by point 91."""
    lines = [" ".join([kind] + list(parts[kind])) for kind in KINDS]
    lines.append("fails " + parts["fails"])
    lines.append(" ".join(["holds"] + [kind for kind in KINDS if kind in parts["holds"]]))
    lines.append("batch " + str(parts["batch"]))
    lines.append({True: "shared", False: "apart"}[parts["shared"]] + " "
                 + {True: "settles", False: "stays"}[parts["settles"]])
    return text(lines)


def parts_of(book):
    return {"take": book.row("take"), "give": book.row("give"), "move": book.row("move"), "lift": book.row("lift"),
            "fails": book.fails, "shared": book.shared, "holds": book.holds, "batch": book.batch,
            "settles": book.settles}


class TestInterface(Checks):

    def test_functions_and_their_parameters(self):
        for name, names in NAMES.items():
            found = getattr(texts, name)
            self.assertEqual(found.__module__, "chargeways.texts")
            self.assertEqual(list(inspect.signature(found).parameters), names)

    def test_example(self):
        self.assert_same(text_of(Book()), "take try live\ngive home off end\nmove home try set off\nlift both\n"
                                          "fails undo\nholds take give move lift\nbatch 1\nshared settles\n")

    def test_by_name(self):
        self.assert_same(read_book(text=text_of(book=Book())), Book())
        self.assert_same(read_deed(line=line_of(deed=("step", 0))), ("step", 0))


class TestTexts(Checks):

    def assert_text(self, book):
        wanted = plain_text(parts_of(book))
        self.assert_same(text_of(book), wanted)
        self.assert_same(read_book(wanted), book)

    def test_each_row(self):
        draw = random.Random(51)
        for kind in KINDS:
            for row in ROWS[kind]:
                while True:
                    parts = {**parts_of(draw_book(draw)), kind: row}
                    if fits(parts):
                        break
                self.assert_text(Book(**parts))

    def test_all_other_parts(self):
        for fails, shared, settles, batch in itertools.product(FAILS, (True, False), (True, False), (1, 2, 9, 10, 50)):
            self.assert_text(Book(fails=fails, shared=shared, settles=settles, batch=batch))
        for size in range(5):
            for holds in itertools.permutations(KINDS, size):
                self.assert_text(Book(holds=holds))
        for batch in range(1, 51):
            self.assert_text(Book(batch=batch))

    def test_nothing_behind_a_name_where_there_are_no_words(self):
        self.assert_same(text_of(Book(move=(), lift=(), holds=())).split("\n")[2:6:1],
                         ["move", "lift", "fails undo", "holds"])

    def assert_wrong(self, value, line):
        self.assert_same(self.assert_raises(InvalidText, {"line": line}, read_book, value).line, line)

    def test_values_that_are_no_strings(self):
        for value in NO_STRINGS:
            self.assert_wrong(value, 1)

    def test_each_line_spoilt(self):
        wrong = {
            0: ["take", "take live", "take try", "take live try", "take add", "take live add look", "take try add live",
                "take look live", "take try try live", "take try live end", "take TRY live", "take try, live", "give try live",
                "takes try live", "try live", "take live live"],
            1: ["give", "give off end", "give end off", "give home", "give home off", "give off home end", "give end end",
                "give home off end live", "take home off end", "give home home end", "give Home off end", "gives end"],
            2: ["move home", "move try", "move set off", "move off set", "move try add set", "move set try", "move set look",
                "move home off try set", "move home try set off end", "move set set", "moves set", "moveset", "Move"],
            3: ["lift home", "lift set both", "lift both set", "lift off off", "lift set off both", "lift try", "lift none",
                "lift both both", "lifts", "lift ()"],
            4: ["fails", "fails stop", "fails undo leave", "fails Undo", "fails none", "fail undo", "undo", "fails undo undo"],
            5: ["holds give take", "holds lift take", "holds settle", "holds take take", "holds take settle", "hold take",
                "holds none", "holds take give lift move", "holds Take", "take give move lift", "holds takegive"],
            6: ["batch", "batch 0", "batch 51", "batch -1", "batch -0", "batch +1", "batch 01", "batch 1.0", "batch one",
                "batch 1 1", "batch none", "batch 100", "batch 1234567890123456789012345678901234567890", "batch 1e1",
                "batch 0x1", "batches 1", "1", "batch -50", "batch 00", "batch True"],
            7: ["shared", "settles", "apart", "stays", "settles shared", "shared settles shared", "shared apart",
                "settles stays", "shared stay", "Shared settles", "shared  stays", "True True", "shared True", "apart apart"]}
        for at, lines in wrong.items():
            for line in lines + ["", " ", "x", PLAIN[at] + " ", " " + PLAIN[at], PLAIN[at].replace(" ", "  "),
                                 PLAIN[at].replace(" ", ""), PLAIN[at].upper(), PLAIN[at] + " x", PLAIN[at][:-1],
                                 PLAIN[at] + "\n", "\n" + PLAIN[at], "-"]:
                spoilt = PLAIN[:at] + [line] + PLAIN[at + 1:]
                position = at + 2 if line == PLAIN[at] + "\n" else at + 1
                self.assert_wrong(text(spoilt), position)
                # the first wrong line counts
                self.assert_wrong(text(spoilt[:7] + ["x"]) if at < 7 else text(spoilt), position)
                self.assert_wrong(text(spoilt + ["x"]), position)

    def test_lines_exchanged(self):
        for at, other in itertools.combinations(range(8), 2):
            lines = list(PLAIN)
            lines[at], lines[other] = lines[other], lines[at]
            self.assert_wrong(text(lines), at + 1)

    def test_lines_left_out_and_twice(self):
        for at in range(8):
            self.assert_wrong(text(PLAIN[:at] + PLAIN[at + 1:]), at + 1)
            self.assert_wrong(text(PLAIN[:at + 1] + PLAIN[at:]), at + 2)

    def test_lines_that_lack(self):
        for many in range(8):
            self.assert_wrong(text(PLAIN[:many]), many + 1)
            # the last line has no end
            self.assert_wrong("\n".join(PLAIN[:many + 1]), many + 1)
            self.assert_wrong(text(PLAIN[:many]) + PLAIN[many][:4], many + 1)

    def test_more_lines(self):
        for more in ("\n", "x", "x\n", " ", PLAIN[0], PLAIN[0] + "\n", text(PLAIN), "\n\n"):
            self.assert_wrong(text(PLAIN) + more, 9)
        self.assert_wrong("\n" + text(PLAIN), 1)

    def test_rows_that_do_not_go_with_the_others(self):
        late = ["take live add"] + PLAIN[1:]
        self.assert_same(read_book(text(late)), Book(take=("live", "add")))
        self.assert_wrong(text(late[:6] + ["batch 2"] + late[7:]), 1)
        self.assert_wrong(text(late[:6] + ["batch 0"] + late[7:]), 7)
        self.assert_wrong(text(late[:6] + ["batch 2", "shared"]), 8)
        self.assert_wrong(text(late[:6] + ["batch 2", "shared settles", "x"]), 9)
        self.assert_wrong(text(late[:6] + ["batch 2"]), 8)
        free = PLAIN[:2] + ["move try home set off"] + PLAIN[3:]
        self.assert_same(read_book(text(free)), Book(move=("try", "home", "set", "off")))
        for last in ("apart settles", "apart stays"):
            self.assert_wrong(text(free[:7] + [last]), 3)
            self.assert_wrong(text(free[:7] + [last, "x"]), 9)
            self.assert_wrong(text(["take look live add"] + free[1:6] + ["batch 50", last]), 1)
            self.assert_wrong(text(free[:6] + ["batch 51", last]), 7)
            self.assert_same(read_book(text(free[:2] + ["move"] + free[3:7] + [last])),
                             Book(move=(), shared=False, settles=last == "apart settles"))

    def test_each_pair_of_rows_and_the_others(self):
        for take, move, batch, shared in itertools.product(ROWS["take"], ROWS["move"], (1, 2), (True, False)):
            parts = {**parts_of(Book()), "take": take, "move": move, "batch": batch, "shared": shared}
            if fits(parts):
                self.assert_same(read_book(plain_text(parts)), Book(**parts))
            else:
                self.assert_wrong(plain_text(parts), 1 if batch == 2 and take[-1] != "live" else 3)

    def test_drawn_changes(self):
        """One change anywhere in the text: what is read is a book with just this text, or nothing."""
        draw = random.Random(52)
        for _ in range(3000):
            good = text_of(draw_book(draw))
            at = draw.randrange(len(good))
            more = draw.choice(["", " ", "\n", "-", "0", "1", "x", good[draw.randrange(len(good))]])
            spoilt = good[:at] + more + good[at + draw.randrange(2):]
            try:
                found = read_book(spoilt)
            except InvalidText as error:
                self.assertIn(error.line, range(1, 10))
            else:
                self.assert_same(text_of(found), spoilt)


class TestLines(Checks):

    DEEDS = {("group", 0): "group 0", ("limit", 1, 12): "limit 1 12", ("limit", 1, None): "limit 1 none",
             ("limit", 0, -5): "limit 0 -5", ("limit", 0, 0): "limit 0 0", ("strike", 3): "strike 3",
             ("take", 99, 199): "take 99 199", ("give", 0, 999): "give 0 999", ("move", 7, 8, 9): "move 7 8 9",
             ("lift", 10, 20): "lift 10 20", ("settle", 4, 4): "settle 4 4", ("settle", 4, 50): "settle 4 50",
             ("step", 0): "step 0", ("step", 100): "step 100", ("step", -1): "step -1"}

    def test_in_words(self):
        for deed, line in self.DEEDS.items():
            self.assert_same(line_of(deed), line)
            self.assert_same(read_deed(line), deed)

    def test_numbers_of_forty_digits(self):
        for number in (10 ** 39, 10 ** 40 - 1, -(10 ** 39), 1 - 10 ** 40, -1, 0):
            for deed in [("group", number), ("limit", number, number), ("limit", number, None), ("strike", number),
                         ("take", number, number), ("give", 0, number), ("move", number, 1, number), ("lift", number, 0),
                         ("settle", 1, number), ("step", number)]:
                line = line_of(deed)
                self.assertEqual(line, " ".join("none" if one is None else str(one) for one in deed))
                self.assert_same(read_deed(line), deed)

    def test_values_that_are_no_deeds(self):
        for value in NO_DEEDS:
            self.assert_raises(InvalidDeed, {"value": value}, line_of, value)

    def test_values_that_are_no_lines(self):
        for value in NO_LINES + NO_STRINGS + [("step", 0), ["step", 0], ["step 0"], 10 ** 39]:
            self.assert_same(self.assert_raises(InvalidText, {"line": 1}, read_deed, value).line, 1)

    def test_drawn_changes(self):
        draw = random.Random(53)
        lines = list(self.DEEDS.values())
        for _ in range(3000):
            good = draw.choice(lines)
            at = draw.randrange(len(good) + 1)
            spoilt = good[:at] + draw.choice(["", " ", "-", "0", "7", "x", "none"]) + good[at + draw.randrange(2):]
            try:
                found = read_deed(spoilt)
            except InvalidText as error:
                self.assertEqual(error.line, 1)
            else:
                self.assertEqual(line_of(found), spoilt)


if __name__ == "__main__":
    unittest.main()
