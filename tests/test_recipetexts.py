"""Points 15 and 16: recipes written as texts, and texts read as recipes."""

import copy
import itertools
import re
import unittest

import things
from redo.errors import BadWord, RedoError
from redo.recipes import is_recipe
from redo.recipetexts import read_recipe, show_recipe

PUT = ("put", 1)
SAY = ("say", PUT)
FAIL = ("fail", "sour")
NAME = ("put", "a")

PAIRS = (
    (("say", ("put", 0)), "say put 0"),
    (("say", ("put", -12)), "say put -12"),
    (("say", ("put", "")), "say put '"),
    (("say", ("put", "b-1")), "say put 'b-1"),
    (("say", ("put", ())), "say put ()"),
    (("say", ("put", (1, ("a", ()), "", -2))), "say put (1,('a,()),',-2)"),
    (("fail", "sour"), "fail sour"),
    (("fail", "say"), "fail say"),
    (("fail", "zzzzzzzz"), "fail zzzzzzzz"),
    (("say", ("row", ())), "say row 0"),
    (("say", ("row", (PUT,))), "say row 1 put 1"),
    (("say", ("row", (PUT, ("row", ()), NAME))), "say row 3 put 1 row 0 put 'a"),
    (("say", ("row", (PUT,) * 8)), "say row 8" + " put 1" * 8),
    (("say", ("many", NAME)), "say many put 'a"),
    (("say", ("part", ("put", (4, 5)), PUT)), "say part put (4,5) put 1"),
    (("say", ("sum", PUT, ("put", 2))), "say sum put 1 put 2"),
    (("say", ("join", NAME, ("put", "b"))), "say join put 'a put 'b"),
    (("say", ("same", PUT, NAME)), "say same put 1 put 'a"),
    (("say", ("less", PUT, ("sum", PUT, PUT))), "say less put 1 sum put 1 put 1"),
    (("want", NAME, ("say", ("got", 0))), "want put 'a say got 0"),
    (("peek", NAME, ("say", ("got", 0))), "peek put 'a say got 0"),
    (("want", NAME, ("peek", ("got", 0), ("say", ("got", 1)))), "want put 'a peek got 0 say got 1"),
    (("when", PUT, SAY, FAIL), "when put 1 say put 1 fail sour"),
    (("when", PUT, FAIL, SAY), "when put 1 fail sour say put 1"),
    (("want", NAME, ("when", ("got", 0), ("when", PUT, FAIL, SAY), ("fail", "b"))),
     "want put 'a when got 0 when put 1 fail sour say put 1 fail b"),
    (things.asking(["want", "peek"] * 6, ("say", ("sum", ("got", 10), ("got", 11)))),
     "want put 'a peek put 'a " * 6 + "say sum got 10 got 11"),
)


class Texts(unittest.TestCase):
    def same(self, one, other):
        """1 and True are the same to Python, so kinds are compared by their shown words."""
        self.assertEqual(one, other)
        self.assertEqual(repr(one), repr(other))

    def refused(self, *given):
        for text, at in given:
            with self.subTest(text=text[:80]):
                with self.assertRaises(BadWord) as caught:
                    read_recipe(text)
                self.assertEqual(caught.exception.at, at)
                self.assertIs(type(caught.exception.at), int)
                self.assertIsInstance(caught.exception, RedoError)


class Written(Texts):
    def test_texts(self):
        for recipe, text in PAIRS:
            with self.subTest(text=text):
                self.same(show_recipe(recipe), text)

    def test_unlike_recipes_have_unlike_texts(self):
        source = things.source(15)
        texts = {}
        for _ in range(4000):
            recipe = things.right_recipe(source, source.randint(2, 5))
            self.same(texts.setdefault(show_recipe(recipe), recipe), recipe)
        self.assertGreater(len(texts), 1500)

    def test_numbers_and_texts_of_figures_are_unlike(self):
        texts = [show_recipe(("say", ("put", value))) for value in (1, "1", (1,), ("1",), "", (), ((),), 0, "0", "-0")]
        self.assertEqual(len(texts), len(set(texts)))

    def test_somewhat_beyond_the_bounds(self):
        self.assertEqual(show_recipe(("say", things.chain(40))), "say" + " many" * 39 + " put 1")
        self.assertEqual(show_recipe(("say", ("row", (PUT,) * 10))), "say row 10" + " put 1" * 10)

    def test_the_greatest_text(self):
        leaf = (("a" * 20,) * 8, ("a" * 20,) * 8, ("a" * 20,) * 8, ("a" * 20,) * 7) + ("a" * 20,) * 4
        recipe = ("say", ("row", (("row", (("put", leaf),) * 8),) * 6 + (("put", leaf),) * 2))
        self.assertIs(is_recipe(recipe), True)
        self.same(read_recipe(show_recipe(recipe)), recipe)


class Read(Texts):
    def test_texts(self):
        for recipe, text in PAIRS:
            with self.subTest(text=text):
                self.same(read_recipe(text), recipe)

    def test_there_and_back(self):
        source = things.source(16)
        for _ in range(2000):
            recipe = things.right_recipe(source, source.randint(2, 12))
            self.same(read_recipe(show_recipe(recipe)), recipe)

    def test_the_text_without_signs_has_one_word(self):
        self.refused(("", 0))

    def test_words_that_begin_no_recipe(self):
        for word in (
            "Say", "SAY", "says", "sayput", "put", "got", "row", "many", "sum", "a", "0", "'", "()", "made", "~",
        ):
            self.refused((word, 0), (word + " put 1", 0), ("want put 'a " + word, 3))
            self.refused(("when put 1 " + word + " fail a", 3))
            self.refused(("when put 1 fail a " + word, 5), ("peek put 'a " + word + " put 1", 3))

    def test_words_that_begin_no_expr(self):
        for word in ("say", "fail", "want", "peek", "when", "Put", "puts", "value", "1", "'a", "()", "a", "~"):
            self.refused(("say " + word, 1), ("say " + word + " 1", 1), ("want " + word + " fail a", 1))
            self.refused(("peek " + word, 1), ("when " + word, 1), ("say many " + word, 2))
            self.refused(("say sum put 1 " + word, 4))
            self.refused(("say row 2 put 1 " + word, 5), ("say row 1 " + word, 3), ("say less " + word + " put 1", 2))

    def test_stamps_that_are_none(self):
        for word in (
            "01", "-0", "+1", "a", "''", "'A", "'" + "a" * 21, "(", ")", "(1,)", "((((()))))", "(1,1,1,1,1,1,1,1,1)",
            "1.5",
            "1000000000000000001", "()()", "(" * 2000, "9" * 5000, "put", "(" + "1," * 20000 + "1)", "'" + "a" * 50000,
        ):
            self.refused(("say put " + word, 2), ("say put " + word + " 1", 2), ("want put " + word + " say put 1", 2))
            self.refused(("say sum put 1 put " + word, 5), ("say row 2 put 1 put " + word, 6))

    def test_numbers_that_are_not_got_there(self):
        for word in ("0", "1", "00", "-1", "-0", "a", "'0", "9" * 5000, "\u0660"):
            self.refused(("say got " + word, 2), ("want got " + word, 2), ("peek got " + word, 2))
            self.refused(("when got " + word, 2))
        for word in ("1", "2", "10", "00", "01", "-1", "+0", "-0", "0.", "a", "()", "'0", "9" * 5000, "\u0660", "0x0"):
            self.refused(("want put 'a say got " + word, 5), ("peek put 'a say sum got 0 got " + word, 8))
            self.refused(("want put 'a when got 0 say got 0 say got " + word, 11), ("want put 'a want got " + word, 5))

    def test_numbers_got_on_each_way(self):
        self.refused(("when put 1 want put 'a say got 0 say got 0", 11))
        self.refused(("when put 1 say got 0 want put 'a say got 0", 5))
        self.same(
            read_recipe("want put 'a when put 1 peek put 'b say got 1 say got 0"),
            ("want", NAME, ("when", PUT, ("peek", ("put", "b"), ("say", ("got", 1))), ("say", ("got", 0)))),
        )
        self.refused(("want put 'a when put 1 peek put 'b say got 1 say got 1", 14))

    def test_each_number_of_values_got(self):
        for many in range(13):
            ahead = "want put 'a " * many
            for number in range(15):
                text = f"{ahead}say got {number}"
                if number < many:
                    self.same(read_recipe(text), things.asking(["want"] * many, ("say", ("got", number))))
                else:
                    self.refused((text, 3 * many + 2))

    def test_numbers_of_a_row(self):
        for word in ("9", "10", "80", "-1", "00", "01", "08", "+1", "a", "-0", "'1", "(1)", "1" * 5000, "\u0661"):
            self.refused(("say row " + word, 2), ("say row " + word + " put 1" * 9, 2), ("say row 1 row " + word, 4))

    def test_words_that_are_no_names(self):
        for word in ("A", "abcdefghi", "a1", "1", "'a", "a-b", "()", "~", "a" * 50000):
            self.refused(("fail " + word, 1), ("fail " + word + " a", 1), ("want put 'a fail " + word, 4))
            self.refused(("when put 1 fail " + word, 4), ("when put 1 fail a fail " + word, 6))

    def test_the_first_word_too_many(self):
        for recipe, text in PAIRS:
            many = len(text.split(" "))
            self.refused((text + " ", many), (text + "  ", many), (text + " a", many), (text + " say put 1", many))
            self.refused((text + " " + text, many), (text + " 1" * 5000, many))

    def test_where_words_lack(self):
        for recipe, text in PAIRS:
            words = text.split(" ")
            for many in range(1, len(words)):
                self.refused((" ".join(words[:many]), many))

    def test_words_without_signs(self):
        for recipe, text in PAIRS:
            words = text.split(" ")
            for at in range(len(words)):
                self.refused((" ".join(words[:at] + [""] + words[at:]), at))
                self.refused((" ".join(words[:at] + [""] + words[at + 1:]), at))
        self.refused((" ", 0), (" say put 1", 0), ("  ", 0), ("say  put 1", 1), (" " * 60000, 0), ("say put  1", 2))

    def test_the_first_of_several(self):
        self.refused(("say got 0 zzz", 2), ("want say put", 1), ("fail A fail", 1), ("say row 9 put 01", 2))
        self.refused(("a b c", 0))
        self.refused(("when put 1 say put 01 got 4", 5), ("say sum got 0 put 01", 3), ("want put 'a say put 1 say", 6))


class Bounds(Texts):
    def test_the_sixty_first_in_all(self):
        for recipe in (
            ("say", things.expr_of(59)), ("want", things.expr_of(57), SAY),
            ("when", things.expr_of(30), FAIL, ("say", things.expr_of(27))),
            things.asking(["want"] * 10, ("say", things.expr_of(39))),
        ):
            self.assertEqual(things.measured(recipe)[0], 60)
            self.same(read_recipe(show_recipe(recipe)), recipe)
        for recipe in (
            ("say", things.expr_of(60)), ("want", NAME, ("say", things.expr_of(58))),
            ("when", PUT, FAIL, ("say", things.expr_of(57))),
        ):
            self.assertEqual(things.measured(recipe)[0], 61)
            words = show_recipe(recipe).split(" ")
            self.assertEqual(words[-2], "put")
            self.refused((" ".join(words), len(words) - 2))
        text = show_recipe(("when", PUT, ("say", things.expr_of(57)), FAIL))
        self.refused((text, len(text.split(" ")) - 2), (text[:-5] + " and more", len(text.split(" ")) - 2))

    def test_a_word_that_begins_none_in_the_place_of_the_sixty_first(self):
        text = show_recipe(("want", things.expr_of(58), SAY))
        words = text.split(" ")
        self.refused((text, len(words) - 2), (" ".join(words[:-2]), len(words) - 2))
        self.refused((" ".join(words[:-2] + ["zzz"]), len(words) - 2))

    def test_rows_of_rows_come_to_sixty(self):
        # say is the first, each row begins one more, two words each; the sixty-first is the row of number 59.
        text = "say" + " row 8 row 0 row 0 row 0 row 0 row 0 row 0 row 0" * 10
        self.refused((text, 1 + 2 * 59))

    def test_within_twenty_others(self):
        self.same(read_recipe("say" + " many" * 18 + " put 1"), ("say", things.chain(19)))
        self.refused(("say" + " many" * 19 + " put 1", 20), ("say" + " many" * 20 + " put 1", 20))
        self.refused(("want put 'a say" + " many" * 18 + " put 1", 22), ("say" + " row 1" * 19 + " row 0", 39))
        self.same(read_recipe("say" + " row 1" * 18 + " row 0")[0], "say")
        self.refused(("say sum put 1" + " many" * 18 + " put 1", 22), ("say" + " sum" * 18 + " put 1 many put 1", 22))

    def test_whens_within_twenty_others(self):
        ahead = "when put 1 fail a "
        self.same(things.measured(read_recipe(ahead * 19 + "fail a"))[:2], (58, 20))
        self.refused((ahead * 19 + "say put 1", 5 * 19 + 1), (ahead * 19 + "when put 1", 5 * 19 + 1))
        # The twentieth when may stand there, but not its put.
        self.refused(("when put 1 " * 20, 3 * 19 + 1), ("when put 1 " * 20 + "fail a " * 21, 3 * 19 + 1))

    def test_the_thirteenth_want_or_peek_on_its_way(self):
        for words in (
            ["want"] * 13, ["peek"] * 13, ["want", "peek"] * 6 + ["want"], ["peek"] * 12 + ["want"],
            ["want"] * 12 + ["peek"],
        ):
            ahead = "".join([word + " put 'a " for word in words])
            self.refused((ahead + "fail a", 36), (ahead + "say got 0", 36), (ahead[:-9], 36))
            self.refused((ahead + "say got 99", 36))
        twelve = "want put 'a " * 12
        self.same(read_recipe(twelve + "fail a"), things.asking(["want"] * 12, ("fail", "a")))

    def test_each_way_for_itself(self):
        twelve = "peek put 'a " * 12
        recipe = read_recipe("when put 1 " + twelve + "fail a " + twelve + "fail b")
        one, other = [things.asking(["peek"] * 12, ("fail", name)) for name in "ab"]
        self.same(recipe, ("when", PUT, one, other))
        self.refused(("when put 1 " + twelve + "want put 'a fail a", 39))
        self.refused((twelve + "when put 1 fail a want put 'a fail a", 41))
        self.refused(("when put 1 " + twelve + "fail a " + twelve + "want put 'a fail a", 3 + 36 + 2 + 36))

    def test_two_thousand_within_one_another(self):
        self.refused(("say " + "many " * 2000 + "put 1", 20), ("say " + "row 1 " * 2000 + "row 0", 39))
        self.refused(("say " + "sum " * 2000 + "put 1 " * 2000 + "put 1", 20), ("want " * 2000, 1), ("say " * 2000, 1))
        self.refused(("want put 'a " * 2000 + "fail a", 36), ("peek put 'a " * 2000 + "fail a", 36))
        self.refused(("when put 1 " * 2000 + "fail a " * 2001, 58), ("when put 1 fail a " * 2000 + "fail a", 96))
        self.refused(("many " * 2000, 0), ("say" + " many" * 11999, 20), ("want put (" + "(" * 2000, 2))


class Both(Texts):
    def compared(self, text):
        wanted = plainly_read(text)
        if wanted[0] == "recipe":
            self.same(read_recipe(text), wanted[1])
            self.assertIs(is_recipe(wanted[1]), True)
            self.assertEqual(show_recipe(wanted[1]), text)
        else:
            self.refused((text, wanted[1]))
        return wanted[0]

    def test_all_short_texts(self):
        seen = {"recipe": 0, "refused": 0}
        for many in range(1, 6):
            for words in itertools.product(("say", "fail", "want", "put", "got", "row", "many", "1", "0"), repeat=many):
                seen[self.compared(" ".join(words))] += 1
        self.assertGreater(seen["recipe"], 20)

    def test_some_words_changed(self):
        source = things.source(17)
        seen = {"recipe": 0, "refused": 0}
        others = "say fail want peek when put got row many sum 0 1 2 8 9 'a a () 01 A".split() + [""]
        for _ in range(6000):
            words = show_recipe(things.right_recipe(source, source.randint(2, 9))).split(" ")
            for _ in range(source.choice([0, 1, 1, 1, 2])):
                at = source.randint(0, len(words))
                new = [source.choice(others) for _ in range(source.choice([0, 1, 1, 2]))]
                words[at:at + source.choice([0, 1, 1, 2])] = new
            seen[self.compared(" ".join(words))] += 1
        self.assertGreater(min(seen.values()), 500)

    def test_recipes_near_the_bounds(self):
        source = things.source(18)
        seen = {"recipe": 0, "refused": 0}
        words = [("say", "fail", "want", "peek", "when")] * 2 + [("want", "peek", "want", "say")]
        for _ in range(4000):
            recipe = things.recipe(source, source.randint(12, 24), 0, source.choice(words))
            seen[self.compared(show_recipe(recipe))] += 1
            self.assertEqual(plainly_read(show_recipe(recipe))[0] == "recipe", is_recipe(recipe))
        self.assertGreater(min(seen.values()), 100)

    def test_recipes_stay(self):
        for recipe, text in PAIRS:
            kept = copy.deepcopy(recipe)
            show_recipe(recipe)
            self.assertEqual(repr(recipe), repr(kept))
            self.assertEqual(read_recipe(text), read_recipe(text))


def plainly_read(text):
    """The same read in another way: what still must come stands on a pile, as (sort, values got, how many above)."""
    words = text.split(" ")
    pile = [("recipe", 0, 0)]
    begun = 0
    for at, word in enumerate(words):
        if not pile:
            return ("refused", at)
        sort, got, above = pile.pop()
        if sort in ("recipe", "expr"):
            begun += 1
            then = behind(sort, word, got, above)
            thirteenth = sort == "recipe" and word in ("want", "peek") and got == 12
            if then is None or begun > 60 or above >= 20 or thirteenth:
                return ("refused", at)
            pile.extend(reversed(then))
        elif sort == "N":
            if word not in list("012345678"):
                return ("refused", at)
            pile.extend([("expr", got, above)] * int(word))
        elif not fills(sort, word, got):
            return ("refused", at)
    return ("refused", len(words)) if pile else ("recipe", built(iter(words)))


def behind(sort, word, got, above):
    inner = above + 1
    expr = ("expr", got, inner)
    if sort == "recipe":
        more = ("recipe", got + 1, inner)
        return {
            "say": [expr], "fail": [("WORD", 0, 0)], "want": [expr, more], "peek": [expr, more],
            "when": [expr, ("recipe", got, inner), ("recipe", got, inner)],
        }.get(word)
    if word in ("part", "sum", "join", "same", "less"):
        return [expr, expr]
    return {"put": [("STAMP", 0, 0)], "got": [("K", got, 0)], "row": [("N", got, inner)], "many": [expr]}.get(word)


def fills(sort, word, got):
    if sort == "WORD":
        return re.fullmatch("[a-z]{1,8}", word) is not None
    if sort == "K":
        return word in [str(k) for k in range(got)]
    return word not in ("", "01", "A", "a") and word[0] in "'(-0123456789"


def built(words):
    word = next(words)
    if word in ("fail", "put", "got"):
        filling = next(words)
        return (word, filling if word == "fail" else int(filling) if word == "got" else valued(filling))
    if word == "row":
        return (word, tuple([built(words) for _ in range(int(next(words)))]))
    many = {"say": 1, "many": 1, "when": 3}.get(word, 2)
    return (word,) + tuple([built(words) for _ in range(many)])


def valued(stamp):
    """Of the stamps that stand here, as Python itself reads them."""
    if stamp == "()":
        return ()
    if stamp.startswith("("):
        return tuple([valued(part) for part in stamp[1:-1].split(",")])
    return stamp[1:] if stamp.startswith("'") else int(stamp)


if __name__ == "__main__":
    unittest.main()
