import random
import unittest

import modelled_desk
import reckoned
from ringhue import desk as module
from ringhue.desk import Desk
from ringhue.errors import HueError, NoHouse, NoRow, NoText, NotReady
from samples import GREATEST, POINTINGS, STAR, drawn_names, drawn_pointings

TREE = "1 2 0 0"
NAMES = "names 17 3 7 9 16"
WITH_NAMES = ("go 0", "done", "ready", "label 0 0", "rounds", "hues", "apart", "pairs")


def told_to(*rows):
    desk = Desk()
    for row in rows:
        desk.say(row)
    return desk


def state(desk):
    """All that a desk tells of itself."""
    found = [desk.say("show")]
    for row in ("done", "ready", "rounds", "hues", "apart", "pairs"):
        try:
            found.append(desk.say(row))
        except NoRow:
            found.append(None)
    for house in range(len(found[0].split(" "))):
        for k in range(12):
            try:
                found.append(desk.say(f"label {house} {k}"))
            except NoRow:
                found.append(None)
    return found


class DeskTest(unittest.TestCase):
    def check(self, desk, row, told):
        answer = desk.say(row)
        self.assertIs(type(answer), str)
        self.assertEqual(answer, told)

    def refused(self, desk, row, kind, field):
        before = state(desk)
        with self.assertRaises(kind) as caught:
            desk.say(row)
        self.assertIs(type(caught.exception), kind)
        self.assertIsInstance(caught.exception, HueError)
        if kind in (NoRow, NoText):
            self.assertEqual(caught.exception.text, field)
        else:
            self.assertEqual(caught.exception.house, field)
        self.assertEqual(state(desk), before)

    def no_row(self, row, *desks):
        for desk in desks or (Desk(), told_to("pointing " + TREE, NAMES)):
            self.refused(desk, row, NoRow, row)


class Answers(DeskTest):
    def test_at_first(self):
        desk = Desk()
        self.check(desk, "show", "1 0")
        self.check(desk, "road 1 3", "1 0 1 0")
        for row in WITH_NAMES:
            self.no_row(row, desk)
        self.check(desk, "names 2 1 0", "ok")
        self.check(desk, "hues", "0 1")

    def test_pointing_and_show(self):
        desk = Desk()
        for text in (TREE, "1 0", "1 2 0", "1" + " 0" * 59, "59" + " 0" * 59):
            self.check(desk, "pointing " + text, "ok")
            self.check(desk, "show", text)

    def test_road(self):
        desk = told_to("pointing " + TREE)
        self.check(desk, "road 3 0", "3")
        self.check(desk, "road 3 4", "3 0 1 2 0")
        self.check(desk, "road 0 100", " ".join(str(at % 3) for at in range(101)))
        desk.say(NAMES)
        self.check(desk, "road 2 1", "2 0")

    def test_names_and_all_that_needs_them(self):
        desk = told_to("pointing " + TREE)
        self.check(desk, NAMES, "ok")
        self.check(desk, "rounds", "9")
        self.check(desk, "hues", "0 2 1 1")
        self.check(desk, "apart", "0")
        self.check(desk, "pairs", "0:1")
        self.check(desk, "done", "0 0 0 0")
        self.check(desk, "ready", "0 1 2 3")
        self.check(desk, "label 3 0", "16")
        self.check(desk, "label 3 1", "none")
        self.check(desk, "go 3", "0")
        self.check(desk, "label 3 1", "0")
        self.check(desk, "done", "0 0 0 1")
        self.check(desk, "ready", "0 1 2")
        self.check(desk, "go 0", "4")
        self.check(desk, "go 3", "4")
        self.check(desk, "done", "1 0 0 2")
        self.check(desk, "ready", "1 2")
        self.check(desk, "label 3 2", "4")
        self.check(desk, "label 3 999999999", "none")
        # The hues are those behind all rounds, however far the hands have gone.
        self.check(desk, "hues", "0 2 1 1")
        self.check(desk, "show", TREE)

    def test_several_pairs_and_houses_apart(self):
        desk = told_to("pointing 1 2 3 4 0", "names 5 0 1 2 3 4")
        self.check(desk, "hues", "0 1 0 1 2")
        self.check(desk, "apart", "0 2")
        self.check(desk, "pairs", "0:1 2:3")

    def test_pairs_turned_about(self):
        desk = told_to("names 2 0 1")
        self.check(desk, "hues", "1 0")
        self.check(desk, "pairs", "1:0")
        self.check(desk, "apart", "1")

    def test_till_all_are_done(self):
        desk = told_to("names 2 0 1")
        for _ in range(6):
            desk.say("go 0")
            self.check(desk, "ready", "1")
            desk.say("go 1")
        self.check(desk, "ready", "none")
        self.check(desk, "done", "6 6")
        self.check(desk, "label 0 6", "1")
        self.check(desk, "label 0 7", "none")
        self.refused(desk, "go 0", NotReady, 0)

    def test_a_new_pointing_takes_the_names_away(self):
        for text in (TREE, "1 0", "3 2 1 0"):
            desk = told_to("pointing " + TREE, NAMES, "go 3")
            self.check(desk, "pointing " + text, "ok")
            for row in WITH_NAMES:
                self.no_row(row, desk)
            self.check(desk, "show", text)

    def test_new_names_new_hands(self):
        desk = told_to("pointing " + TREE, NAMES, "go 3")
        self.check(desk, NAMES, "ok")
        self.check(desk, "done", "0 0 0 0")
        self.check(desk, "names 6 5 4 3 2", "ok")
        self.check(desk, "rounds", "6")
        self.check(desk, "label 0 0", "5")
        self.check(desk, "go 0", "4")

    def test_greatest_and_least_numbers(self):
        desk = Desk()
        self.check(desk, "names 1000000000000000000 999999999999999999 0", "ok")
        self.check(desk, "rounds", "10")
        self.check(desk, "label 0 0", "999999999999999999")
        self.check(desk, "names 2 1 0", "ok")
        self.check(desk, "rounds", "6")
        self.check(desk, "label 1 999999999", "none")
        self.check(desk, "label 1 0", "0")

    def test_label_nought_is_no_none(self):
        desk = told_to("names 2 0 1")
        self.check(desk, "label 0 0", "0")
        self.check(desk, "go 1", "0")
        self.check(desk, "label 1 1", "0")

    def test_two_desks_have_nothing_in_common(self):
        first, second = Desk(), Desk()
        first.say("pointing " + TREE)
        first.say(NAMES)
        self.assertEqual(state(second), state(Desk()))
        second.say("pointing " + TREE)
        second.say(NAMES)
        first.say("go 0")
        self.assertEqual(second.say("done"), "0 0 0 0")
        first.say("pointing 1 0")
        self.assertEqual(second.say("go 0"), "4")
        self.assertEqual(first.say("show"), "1 0")
        self.assertEqual(second.say("show"), TREE)

    def test_stands_in_its_file(self):
        self.assertEqual(Desk.__module__, module.__name__)
        self.assertIn("say", vars(Desk))


class NoRows(DeskTest):
    def test_the_empty_row_and_blanks(self):
        self.no_row("")
        for row in (" ", "  ", " " * 6000):
            self.no_row(row)
        for row in WITH_NAMES + ("show", "road 0 1", NAMES, "names 2 1 0"):
            for wrong in (" " + row, row + " ", row.replace(" ", "  ", 1) + " " * (" " not in row), row + "  "):
                self.no_row(wrong)
        self.no_row(" pointing 1 0")
        self.no_row("  pointing 1 0")
        for row in ("road 0  1", "label 0  0", "names 17 3 7  9 16", "names 17 3 7 9 16 "):
            self.no_row(row)

    def test_tabs_and_line_feeds(self):
        for row in WITH_NAMES + ("show", "road 0 1", NAMES):
            for sign in ("\t", "\n"):
                for at in range(len(row) + 1):
                    self.no_row(row[:at] + sign + row[at:])
                self.no_row(row.replace(" ", sign, 1) + sign * (" " not in row))
        for sign in ("\t", "\n"):
            for at in range(len("pointing") + 1):
                self.no_row("pointing"[:at] + sign + "pointing 1 0"[at:])
            self.no_row("pointing" + sign + "1 0")
            self.no_row(sign)

    def test_unknown_words(self):
        for word in ("Show", "SHOW", "shows", "sho", "x", "0", "1 0", "none", "ok", "hue", "pair", "window", "is", ":",
                     "name", "point", "Pointing 1 0", "GO 0", "label:0", "road:0:1", "stands 3 1", "exit", "None"):
            self.no_row(word)
        for code in range(32, 127):
            self.no_row(chr(code))

    def test_words_too_many_or_too_few(self):
        for row in ("show 0", "show show", "done 0", "ready 0", "rounds 17", "hues 0", "apart 0", "pairs 0",
                    "road", "road 0", "road 0 1 2", "go", "go 0 1", "label", "label 0", "label 0 0 0",
                    "pointing", "names", "names 17", "names 17 3"):
            self.no_row(row)

    def test_numbers_not_so_written(self):
        for row in ("road {} 1", "road 0 {}", "go {}", "label {} 0", "label 0 {}"):
            for word in ("00", "01", "-0", "-1", "+1", "1.", "1_0", "a", "x", "0x1", "1e0", "'1'", "", "0a", "none",
                         "\u0661", "\u00b2", "1000000000", "0" * 9, "1" * 10, "9" * 10, "9" * 5000):
                self.no_row(row.format(word))
        for word in ("00", "01", "-1", "+1", "1_0", "a", "", "3.0", "\u0663", "\u00b3",
                     "1" + "0" * 19, "9" * 20, "9" * 5000, "0" * 19):
            self.no_row("names 17 3 7 9 " + word)
            self.no_row("names 17 " + word + " 7 9 16")
            self.no_row("names " + word + " 0 1 2 3")

    def test_a_road_too_long(self):
        for k in (101, 102, 1000, 999999999):
            self.no_row(f"road 0 {k}")
        self.check(Desk(), "road 0 100", "0 1 " * 50 + "0")

    def test_names_that_are_none(self):
        desk = told_to("pointing " + TREE, NAMES, "go 3")
        for row in (
            "names 0 0 1 2 3", "names 1 0 1 2 3", "names 1 0 0 0 0", "names 0 0 0 0 0",
            "names 1000000000000000001 0 1 2 3", "names 9999999999999999999 0 1 2 3",
            "names 17 3 7 9", "names 17 3 7 9 16 2", "names 17",
            "names 17 3 7 9 16 16", "names 17 3 3 7 9 16", "names 17 3 7 9 3", "names 17 3 3 7 9", "names 17 0 0 0 0",
            "names 17 3 7 9 17", "names 17 18 7 9 16", "names 4 0 1 2 4", "names 3 0 1 2 3",
            "names 17 3 7 9 9999999999999999999",
        ):
            self.no_row(row, desk)
        # Right for four houses, but at first there are two.
        self.no_row(NAMES, Desk())
        self.no_row("names 2 0 1", desk)
        self.check(desk, "names 4 0 1 2 3", "ok")

    def test_before_there_are_names(self):
        for row in WITH_NAMES + ("go 1", "go 2", "go 999999999", "label 9 9", "label 1 0"):
            self.no_row(row, Desk(), told_to("pointing " + TREE), told_to("pointing " + TREE, NAMES, "pointing 1 0"))

    def test_refused_names_give_none(self):
        desk = Desk()
        self.no_row("names 2 0 0", desk)
        self.no_row("hues", desk)


class OtherRefusals(DeskTest):
    def no_text(self, text):
        for desk in (Desk(), told_to("pointing " + TREE, NAMES, "go 3")):
            self.refused(desk, "pointing " + text, NoText, text)

    def test_texts_that_write_none(self):
        for text in ("0", "1", "1 1", "0 1", "2 0", "1 0 3", "01 0", "1 00", "a", "1 a", "-1 0", "show", "pointing 1 0",
                     "1,0", "1 0 60", "1" + " 0" * 60, "9" * 5000, "1 0 " * 1000, "~" * 5900, "\u0661 0"):
            self.no_text(text)

    def test_words_without_signs(self):
        for text in ("", " ", "  ", " 1 0", "1 0 ", "1  0", "  1 0", "1 0  ", " " * 5900):
            self.no_text(text)

    def test_tabs_and_line_feeds_within_the_text(self):
        for sign in ("\t", "\n"):
            for at in range(len("1 0") + 1):
                self.no_text("1 0"[:at] + sign + "1 0"[at:])
            self.no_text("1" + sign + "0")

    def test_no_house(self):
        desk = told_to("pointing " + TREE)
        for house in (4, 5, 60, 999999999):
            self.refused(desk, f"road {house} 0", NoHouse, house)
            self.refused(desk, f"road {house} 100", NoHouse, house)
        desk.say(NAMES)
        for house in (4, 5, 60, 999999999):
            self.refused(desk, f"road {house} 1", NoHouse, house)
            self.refused(desk, f"go {house}", NoHouse, house)
            self.refused(desk, f"label {house} 0", NoHouse, house)
            self.refused(desk, f"label {house} 999999999", NoHouse, house)

    def test_not_ready(self):
        desk = told_to("pointing " + TREE, NAMES, "go 3")
        self.refused(desk, "go 3", NotReady, 3)
        desk.say("go 0")
        self.refused(desk, "go 0", NotReady, 0)
        desk.say("go 3")
        self.refused(desk, "go 3", NotReady, 3)

    def test_several_at_once(self):
        # No row before no house, and before no text where words are wrong otherwise.
        self.no_row("road 9 101")
        self.no_row("go 9", Desk())
        self.no_row("label 9 0", Desk())
        self.no_row("go 09")
        self.no_row("go 9 9")
        self.no_row("road 9 01")
        self.no_row(" pointing x")
        # A house that isn't there can't go either.
        desk = told_to("names 2 0 1", "go 0")
        self.refused(desk, "go 2", NoHouse, 2)
        self.refused(desk, "go 0", NotReady, 0)
        while desk.say("ready") != "none":
            desk.say("go " + desk.say("ready").split(" ")[0])
        self.refused(desk, "go 2", NoHouse, 2)

    def test_refusals_leave_other_desks_alone(self):
        other = told_to("pointing " + TREE, NAMES, "go 3")
        before = state(other)
        desk = told_to("pointing " + TREE, NAMES)
        for row in ("", "pointing 0", "pointing ", "names 17 3 7 9 9", "go 4", "road 4 1", "label 4 1", "show 1"):
            with self.assertRaises(HueError):
                desk.say(row)
            self.assertEqual(state(other), before)


class Drawn(DeskTest):
    """Many rows, held against the desk as the words say it."""

    def said(self, desk, row):
        try:
            told = desk.say(row)
        except (NoRow, NoText) as refusal:
            return type(refusal).__name__, refusal.text
        except (NoHouse, NotReady) as refusal:
            return type(refusal).__name__, refusal.house
        self.assertIs(type(told), str)
        return "told", told

    def same(self, rows):
        desk, model = Desk(), modelled_desk.Desk()
        for row in rows:
            self.assertEqual(self.said(desk, row), model.say(row), row)

    def right_rows(self, draw, pointing, m):
        many = len(pointing)
        rows = ["show", "done", "ready", "rounds", "hues", "apart", "pairs"]
        rows += [f"go {draw.randrange(many + 1)}" for _ in range(15)]
        rows += [f"label {draw.randrange(many + 1)} {draw.randrange(12)}" for _ in range(6)]
        rows += [f"road {draw.randrange(many + 1)} {draw.randrange(103)}" for _ in range(3)]
        draw.shuffle(rows)
        return rows

    def setting_rows(self, draw, pointing, m):
        return ["pointing " + " ".join(map(str, pointing)),
                f"names {m} " + " ".join(map(str, drawn_names(pointing, m, draw)))]

    def test_right_rows(self):
        draw = random.Random(21)
        for pointing in POINTINGS + tuple(drawn_pointings(25)):
            for m in (60, 257, GREATEST):
                rows = self.right_rows(draw, pointing, m)
                rows += self.setting_rows(draw, pointing, m)
                for _ in range(6):
                    rows += self.right_rows(draw, pointing, m)
                self.same(rows)

    def test_all_goes(self):
        draw = random.Random(22)
        for pointing in POINTINGS:
            rows = self.setting_rows(draw, pointing, GREATEST)
            for house in range(len(pointing)):
                rows += [f"go {house}"] * 3
            for _ in range(12):
                rows += [f"go {house}" for house in draw.sample(range(len(pointing)), len(pointing))]
                rows += ["done", "ready"]
            for _ in range(12):
                rows += [f"go {house}" for house in range(len(pointing))] + ["done", "ready"]
            rows += [f"label {house} {k}" for house in range(len(pointing)) for k in range(12)]
            self.same(rows)

    def test_rows_of_drawn_words(self):
        draw = random.Random(23)
        words = ["pointing", "show", "road", "names", "go", "done", "ready", "label", "rounds", "hues",
                 "apart", "pairs", "0", "1", "2", "3", "4", "7", "17", "00", "01", "101", "100",
                 "999999999", "1000000000", "-1", "",
                 str(GREATEST), str(GREATEST + 1), "9" * 19, "1" + "0" * 19, "x", "1\t0", "\n", "none"]
        for _ in range(150):
            rows = []
            for _ in range(80):
                many = draw.choice((1, 2, 2, 3, 3, 3, 4, 5, 6))
                rows.append(" ".join(draw.choice(words) for _ in range(many)))
            self.same(rows)

    def test_rows_a_sign_away_from_right_ones(self):
        draw = random.Random(24)
        signs = [chr(code) for code in range(32, 127) if code != 37] + ["\t", "\n"] + list(" 0123456789" * 5)
        for pointing in ((1, 0), (1, 2, 0, 0), (1, 2, 3, 4, 0)):
            for m in (5, 17, GREATEST):
                rows = self.setting_rows(draw, pointing, m)
                for row in self.setting_rows(draw, pointing, m) + self.right_rows(draw, pointing, m):
                    for at in range(len(row) + 1):
                        sign = draw.choice(signs)
                        rows += [row[:at] + sign + row[at:], row[:at] + sign + row[at + 1:], row[:at] + row[at + 1:]]
                self.same(rows)

    def test_long_rows(self):
        rows = ["pointing " + " ".join(map(str, STAR)),
                "names 60 " + " ".join(str(name) for name in range(60)), "done", "ready", "hues", "apart", "pairs"]
        for sign in " 019a~\t\n-:":
            rows += [sign * 6000, "pointing " + sign * 5991, "names " + sign * 5994, "go " + sign * 5997,
                     "label 0 " + sign * 5992, "road " + sign * 5990 + " 1", "show" + sign * 5996]
        rows += ["names 60 " + "0 " * 2995, "names " + "1 " * 2997 + "1", "names 60" + " 59" * 1990, "1 " * 3000,
                 "pointing" + " 0" * 2990, "go" + " 0" * 2990, "done"]
        self.same(rows)

    def test_the_model_answers_as_the_document_does(self):
        model = modelled_desk.Desk()
        self.assertEqual(model.say("pointing " + TREE), ("told", "ok"))
        self.assertEqual(model.say(NAMES), ("told", "ok"))
        self.assertEqual(model.say("hues"), ("told", "0 2 1 1"))
        self.assertEqual(reckoned.halvings(17), [17, 10, 8, 6])


if __name__ == "__main__":
    unittest.main()
