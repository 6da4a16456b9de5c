import random
import unittest

from splitscar.before import count_before
from splitscar.desk import Desk
from splitscar.errors import (
    Full, InvalidRule, InvalidText, InvalidValue, NoKey, NotGrown, NothingToUndo, NotSound, Rebuilt, TooLarge,
    TooMany, UnknownCommand,
)
from splitscar.evidence import Evidence
from splitscar.faults import tree_fault
from splitscar.filecheck import file_fault
from splitscar.images import empty_file, levels_of
from splitscar.later import puts_between
from splitscar.ordercheck import shows_order
from splitscar.reader import read_file, read_levels
from splitscar.rules import Rule
from splitscar.store import Store
from splitscar.texts import show_file, show_levels
from splitscar.trees import Tree

from tests.file_models import random_deed
from tests.helpers import BIG, ODD_VALUES, RULES, numbers_of, same
from tests.test_evidence import file_of

# Each form of a line with right words behind the first one.
FORMS = {
    "rule": ["2", "1", "2", "2"], "put": ["5", "=abc"], "strike": ["3"], "range": ["1", "4"], "rebuild": [],
    "undo": ["1"], "get": ["3"], "scan": ["1", "9"], "size": [], "levels": [], "file": [], "verdict": [], "order": [],
    "ghosts": [], "before": ["3"], "since": ["1"],
}
NO_KEYS = ["", "-", "+1", "-0", "01", "--1", "1.0", "x", "=", "1\n", "\n1", "1" * 16, "-" + "1" * 16, "0x1", "~_", "1_0"]
NO_NUMBERS = NO_KEYS + ["-1", "-5"]
NO_STRINGS = ["", "a", "5", "-", "=~", "=a~", "=~a", "=~~~", "@3:9", "=a~-b", "a=", "~_="]


def in_line(value):
    """A string as a word."""
    return "=" + value.replace("~", "~~").replace(" ", "~_")


def filled(*keys):
    desk = Desk()
    for key in keys:
        desk.say(f"put {key} =v{key}")
    return desk


def shown(desk):
    """All that a desk tells, its earlier deeds among it."""
    found = [desk.say(line) for line in ("size", "levels", "file", "verdict", "ghosts")]
    many = 0
    while True:
        try:
            found.append(desk.say(f"since {many + 1}"))
        except (TooLarge, TooMany, Rebuilt) as error:
            found.append(type(error))
        except NothingToUndo:
            return found
        many += 1


class Histories(unittest.TestCase):
    def say(self, desk, store, line, rng):
        """Says a line, sometimes by name."""
        return desk.say(line) if rng.random() < 0.5 else desk.say(line=line)

    def line_of(self, deed):
        if deed[0] == "put":
            return f"put {deed[1]} {in_line(deed[2])}"
        if deed[0] == "rebuild":
            return "rebuild"
        return " ".join([{"strike": "strike", "strike range": "range"}[deed[0]], *map(str, deed[1:])])

    def test_deeds_and_questions(self):
        met = {}
        for number, rule in enumerate(RULES):
            rng = random.Random(number)
            desk, store = Desk(), Store(rule)
            self.assertEqual(desk.say("rule " + " ".join(map(str, numbers_of(rule)))), "ok")
            files = [store.file]
            for _ in range(30):
                deed = random_deed(rng, store.table, range(15), rebuilds=0.03)
                store.do(deed)
                answer = " ".join(map(str, [store.commit, *(store.last[2] if deed[0] == "strike range" else ())]))
                self.assertEqual(self.say(desk, store, self.line_of(deed), rng), answer)
                files.append(store.file)
                if rng.random() < 0.1:
                    many = rng.randrange(1, len(files))
                    self.assertEqual(desk.say(f"undo {many}"), "ok")
                    files = files[:-many]
                    store = Store.of(rule, files[-1])
                self.questions(desk, store, files, rng, met)
        self.assertEqual(sorted(met), ["TooLarge", "grown", "never", "struck", "way"])

    def questions(self, desk, store, files, rng, met):
        tree = Tree(store.rule, store.levels)
        self.assertEqual(desk.say("size"), f"{len(store.table)} {len(store.file)} {store.commit}")
        self.assertEqual(desk.say("levels"), show_levels(store.levels).replace("\n", " / "))
        self.assertEqual(desk.say("file"), show_file(store.file).replace("\n", " / "))
        key = rng.randrange(15)
        self.assertEqual(desk.say(f"get {key}"), in_line(store[key]) if key in store else "-")
        low, high = rng.randrange(-2, 16), rng.randrange(-2, 18)
        records = [f"{key} {in_line(value)}" for key, value in store.scan(low=low, high=high)]
        self.assertEqual(desk.say(f"scan {low} {high}"), " ".join(records) or "-")
        evidence = Evidence.of(store)
        self.assertEqual(desk.say("ghosts"), " ".join(map(str, evidence.ghosts)) or "-")
        fault = tree_fault(tree)
        if fault is None:
            met["grown"] = True
            self.assertEqual(desk.say("verdict"), "grown")
            answer = desk.say("order")
            self.assertTrue(shows_order(tree, tuple(map(int, answer.split(" "))) if answer != "-" else ()))
        else:
            self.assertEqual(desk.say("verdict"), f"struck {fault[0]} {fault[1]} {fault[2]}")
            with self.assertRaises(NotGrown) as caught:
                desk.say("order")
            self.assertTrue(same(caught.exception.fault, fault))
        if key in store:
            self.assertEqual(desk.say(f"before {key}"), str(count_before(tree, key)))
        else:
            with self.assertRaises(NoKey) as caught:
                desk.say(f"before {key}")
            self.assertTrue(same(caught.exception.key, key))
        self.since(desk, store.rule, files, rng.randrange(1, len(files)) if len(files) > 1 else None, met)

    def since(self, desk, rule, files, many, met):
        if many is None:
            return
        first, later = Evidence(rule, files[-1 - many]), Evidence(rule, files[-1])
        try:
            told = puts_between(first, later)
        except (Rebuilt, TooLarge, TooMany) as error:
            with self.assertRaises(type(error)):
                desk.say(f"since {many}")
            if not isinstance(error, Rebuilt):
                met[type(error).__name__] = True
            return
        met[told[0]] = True
        if told[0] == "never":
            self.assertEqual(desk.say(f"since {many}"), f"never {len(told[1])}")
        else:
            self.assertEqual(desk.say(f"since {many}"), told[0] + " " + (" ".join(map(str, told[1])) or "-"))

    def test_the_start(self):
        self.assertTrue(same(Desk.START, (2, 1, 2, 2)))
        desk = Desk()
        self.assertEqual([desk.say(line) for line in ("size", "levels", "file", "verdict", "order", "ghosts", "scan 0 9")],
                         ["0 3 0", "-", "head 2 0 / space 3 0 / leaf -", "grown", "-", "-", "-"])
        desk.say("put 1 =")
        desk.say("put 2 =")
        desk.say("put 3 =")
        self.assertEqual(desk.say("levels"), show_levels(Tree.grown(Rule(*Desk.START), 1, 2, 3).levels).replace("\n", " / "))
        self.assertIs(desk == Desk(), False)

    def test_strings(self):
        desk = Desk()
        for value in ["", " ", "~", "~~", "~_", "a b", "=", "-", "@3:9", " / ", "x" * 40, "~ " * 20]:
            desk.say(f"put 7 {in_line(value)}")
            self.assertEqual(desk.say("get 7"), in_line(value))
            self.assertEqual(desk.say("scan 0 9"), f"7 {in_line(value)}")

    def test_keys_at_their_bounds(self):
        desk = Desk()
        for key in (BIG - 1, 1 - BIG, 0, -1):
            desk.say(f"put {key} =v")
            self.assertEqual(desk.say(f"get {key}"), "=v")
        self.assertEqual(desk.say(f"range {1 - BIG} {BIG - 1}"), f"5 {1 - BIG} -1 0 {BIG - 1}")
        self.assertEqual(desk.say("range 5 3"), "6")

    def test_since(self):
        desk = filled(1, 9)
        desk.say("put 5 =")
        desk.say("strike 5")
        self.assertEqual(desk.say("since 2"), "never 1")
        self.assertEqual(desk.say("since 1"), "struck 5")
        desk.say("put 12 =")
        self.assertEqual(desk.say("since 1"), "way 12")
        desk.say("put 12 =other")
        self.assertEqual(desk.say("since 1"), "way -")
        desk.say("rebuild")
        with self.assertRaises(Rebuilt) as caught:
            desk.say("since 1")
        self.assertTrue(same(caught.exception.number, 7))
        for key in range(20, 27):
            desk.say(f"put {key} =")
        with self.assertRaises(TooLarge):
            desk.say("since 7")
        self.assertEqual(desk.say("since 6").split(" ")[0], "way")


class Wrong(unittest.TestCase):
    def wrong(self, desk, said, error, **attributes):
        with self.assertRaises(error) as caught:
            desk.say(said)
        for name, value in attributes.items():
            self.assertTrue(same(getattr(caught.exception, name), value), (said, vars(caught.exception)))

    def test_unknown_commands(self):
        desk = filled(1, 2, 3)
        kept = shown(desk)
        lines = ["", " ", "  ", "\n", "sizes", "Size", "size ", " size", "size\n", "\nsize", "siz e", "open", "get", "get ",
                 "put", "put 1", "put 1 = ", "put 1 =a =b", "put 1  =a", "rebuild ", "rebuild 1", "strike 1 2", "range 1",
                 "range 1 2 3", "rule", "rule 2 1 2", "rule 2 1 2 2 2", "undo", "undo 1 1", "since", "before", "scan 1",
                 "strike range 1 2", "open\nhead 2 0", "opens head", "-", "=", "help", "get  1"]
        for line in lines:
            # The empty word behind `get` is a word, but none that is written so.
            if line == "get ":
                self.wrong(desk, line, InvalidText, line=0, word=1)
            else:
                self.wrong(desk, line, UnknownCommand)
        for value in ODD_VALUES + [b"size", ["size"], ("size",), {"size": 1}]:
            if type(value) is str:
                continue
            self.wrong(desk, value, UnknownCommand)
        for name, words in FORMS.items():
            right = [name] + words
            for many in range(1, len(right)):
                self.wrong(desk, " ".join(right[:many]), UnknownCommand)
            for more in ("", "1", "=a", "-", "x"):
                self.wrong(desk, " ".join(right + [more]), UnknownCommand)
            self.wrong(desk, " " + " ".join(right), UnknownCommand)
            self.wrong(desk, "  ".join(right) if words else name + "  ", UnknownCommand)
        self.assertEqual(shown(desk), kept)

    def test_words_that_are_not_written_so(self):
        desk = filled(1, 2, 3, 4, 5)
        kept = shown(desk)
        kinds = {"rule": "NNNN", "put": "KS", "strike": "K", "range": "KK", "undo": "N", "get": "K", "scan": "KK",
                 "before": "K", "since": "N"}
        bad = {"N": NO_NUMBERS, "K": NO_KEYS, "S": NO_STRINGS}
        for name, letters in kinds.items():
            for at, letter in enumerate(letters):
                for word in bad[letter]:
                    words = list(FORMS[name])
                    words[at] = word
                    self.wrong(desk, " ".join([name] + words), InvalidText, line=0, word=at + 1)
                    # The first wrong word counts.
                    for behind in range(at + 1, len(words)):
                        words[behind] = "?"
                    self.wrong(desk, " ".join([name] + words), InvalidText, line=0, word=at + 1)
        self.assertEqual(shown(desk), kept)

    def test_the_errors_of_the_functions(self):
        desk = filled(1, 2, 3)
        desk.say("strike 3")
        kept = shown(desk)
        self.wrong(desk, "strike 3", NoKey, key=3)
        self.wrong(desk, "before 3", NoKey, key=3)
        self.wrong(desk, "order", NotGrown, fault=(1, 1, "few"))
        self.wrong(desk, "put 1 =" + "x" * 41, InvalidValue, value="x" * 41)
        self.wrong(desk, "put 1 =\n", InvalidValue, value="\n")
        self.wrong(desk, "put 1 =a\nb", InvalidValue, value="a\nb")
        self.wrong(desk, "put 1 =" + "~_" * 41, InvalidValue, value=" " * 41)
        for numbers in ("0 1 2 2", "2 1 1 2", "2 1 2 3", "16 2 2 2", "2 1 2 16", "999999999999999 1 2 2", "1 2 3 2"):
            self.wrong(desk, "rule " + numbers, InvalidRule)
        for many in (0, 5, 6, 999999999999999):
            self.wrong(desk, f"undo {many}", NothingToUndo, count=many)
            self.wrong(desk, f"since {many}", NothingToUndo, count=many)
        self.assertEqual(shown(desk), kept)

    def test_full(self):
        desk = Desk()
        desk.say("rule 8 8 8 8")
        for key in range(300):
            desk.say(f"put {key} =")
        self.wrong(desk, "put 300 =", Full, limit=300)
        self.assertEqual(desk.say("put 299 =a"), "301")
        self.assertEqual(desk.say("size"), desk.say("size"))

    def test_too_many(self):
        # Six keys that split pages on several levels can have come in very many ways.
        rng = random.Random(1)
        for seed in range(200):
            desk = Desk()
            keys = rng.sample(range(60), 26)
            for key in keys:
                desk.say(f"put {key} =")
            try:
                desk.say("since 6")
            except TooMany as error:
                self.assertTrue(same(error.limit, 500))
                return
        self.fail("no such tree was drawn")


class Undo(unittest.TestCase):
    def test_there_and_back(self):
        desk = Desk()
        states = [desk.say("file")]
        lines = ["put 1 =a", "put 2 =b", "put 3 =long~_long~_long", "strike 2", "range 0 1", "rebuild", "put 2 =c", "range 9 1"]
        for line in lines:
            desk.say(line)
            states.append(desk.say("file"))
        for many in range(1, len(lines) + 1):
            again = Desk()
            again.say_all(*lines)
            self.assertEqual(again.say("file"), states[-1])
            self.assertEqual(again.say(f"undo {many}"), "ok")
            self.assertEqual(again.say("file"), states[-1 - many])
            # What was taken back is no deed any more.
            with self.assertRaises(NothingToUndo):
                again.say(f"undo {len(lines) - many + 1}")
            if many < len(lines):
                again.say("undo 1")
                self.assertEqual(again.say("file"), states[-2 - many])
        self.assertEqual([desk.say("undo 1") for _ in lines], ["ok"] * len(lines))
        self.assertEqual(desk.say("file"), states[0])

    def test_rule_and_open_forget(self):
        for line in ("rule 2 1 2 2", "open " + "head 2 0 / space 3 0 / leaf -"):
            desk = filled(1, 2, 3)
            self.assertEqual(desk.say(line), "ok")
            self.assertEqual(desk.say("size"), "0 3 0")
            for question in ("undo 1", "since 1"):
                with self.assertRaises(NothingToUndo):
                    desk.say(question)
            desk.say("put 4 =")
            self.assertEqual(desk.say("undo 1"), "ok")


class Open(unittest.TestCase):
    def test_there_and_back(self):
        for number, rule in enumerate(RULES):
            rng = random.Random(number)
            store = Store(rule)
            for _ in range(30):
                store.do(random_deed(rng, store.table, range(25)))
            desk = Desk()
            desk.say("rule " + " ".join(map(str, numbers_of(rule))))
            text = show_file(store.file).replace("\n", " / ")
            self.assertEqual(desk.say("open " + text), "ok")
            self.assertEqual(desk.say("file"), text)
            self.assertEqual(read_file(text.replace(" / ", "\n")), store.file)
            self.assertEqual(read_levels(rule, desk.say("levels").replace(" / ", "\n")), store.levels)
            self.assertEqual(desk.say("size"), f"{len(store.table)} {len(store.file)} {store.commit}")
            self.assertEqual(desk.say("rebuild"), str(store.commit + 1))
            self.assertEqual(desk.say("undo 1"), "ok")
            self.assertEqual(desk.say("file"), text)
            again = Desk()
            again.say("rule " + " ".join(map(str, numbers_of(rule))))
            self.assertEqual(again.say("open " + desk.say("file")), "ok")
            self.assertEqual(again.say("file"), text)

    def invalid(self, line, number, word):
        desk = filled(1, 2)
        kept = shown(desk)
        with self.assertRaises(InvalidText) as caught:
            desk.say(line)
        self.assertTrue(same((caught.exception.line, caught.exception.word), (number, word)), (line, vars(caught.exception)))
        self.assertEqual(shown(desk), kept)

    def test_invalid_texts(self):
        good = "head 2 0 / space 3 0 / leaf -"
        self.invalid("open ", 0, 0)
        self.invalid("open  ", 0, 0)
        self.invalid("open  " + good, 0, 0)
        self.invalid("open " + good + " ", 2, 2)
        self.invalid("open " + good + " / ", 3, 0)
        self.invalid("open " + good + " /", 2, 2)
        self.invalid("open / " + good, 0, 0)
        self.invalid("open /", 0, 0)
        self.invalid("open free /", 0, 1)
        self.invalid("open head 2 0 /  / leaf -", 1, 0)
        self.invalid("open head 2 0 / / leaf -", 1, 0)
        self.invalid("open head 2 / space 3 0", 0, 2)
        self.invalid("open head 2 0 0 / space 3 0", 0, 3)
        self.invalid("open head 2 -1 / space x", 0, 2)
        self.invalid("open head 2 0 / space 3 x / leaf -", 1, 2)
        self.invalid("open head 2 0 / spac 3 0 / leaf -", 1, 0)
        self.invalid("open head 2 0 / space 3 0 / leaf - 5", 2, 3)
        self.invalid("open head 2 0 / space 3 0 / leaf - 5 =~", 2, 3)
        self.invalid("open head 2  0", 0, 2)

    def test_a_word_with_a_newline(self):
        self.invalid("open head 2 0\nspace 3 0\nleaf -", 0, 2)
        self.invalid("open \nhead 2 0", 0, 0)
        self.invalid("open head\n2 0", 0, 0)
        self.invalid("open head 2 0 / space 3 0\n / leaf -", 1, 2)
        self.invalid("open head 2 0 / space 3 0 / leaf - 5 =a\nb", 2, 3)
        self.invalid("open head 2 0 / space 3 0 / leaf - 5 =\n", 2, 3)
        self.invalid("open head 2 0 / space 3 0 / leaf - / piece - =a\n / free", 3, 2)
        self.invalid("open head 2 0 / space 3 0 / leaf - / free\n", 3, 0)
        self.invalid("open head 2 0 /\nspace 3 0", 0, 3)
        self.invalid("open \n", 0, 0)

    def test_not_sound(self):
        for text, page, word in [
            ("free", -1, "form"), ("head 2 0 / space 3 0", -1, "form"), ("head 2 0 / space 4 0 / leaf -", 1, "image"),
            ("head 2 3 / space 3 2 / leaf -", 1, "image"), ("head 2 0 / space 3 0 / leaf 2", 2, "right"),
            ("head 2 0 / space 3 0 / leaf - 2 = 1 =", 2, "image"), ("head 2 0 / space 4 0 / leaf - / free", 1, "free"),
            ("head 2 0 / space 4 0 / leaf - / leaf -", 3, "lost"), ("head 2 0 / space 3 0 / leaf - 1 = 2 = 3 =", 2, "image"),
        ]:
            desk = filled(1, 2)
            kept = shown(desk)
            with self.assertRaises(NotSound) as caught:
                desk.say("open " + text)
            self.assertTrue(same((caught.exception.page, caught.exception.word), (page, word)))
            self.assertEqual(file_fault(Rule(*Desk.START), read_file(text.replace(" / ", "\n"))), (page, word))
            self.assertEqual(shown(desk), kept)

    def test_the_rule_stays(self):
        desk = Desk()
        desk.say("rule 3 1 2 2")
        desk.say("open head 2 0 / space 3 0 / leaf - 1 = 2 = 3 =")
        self.assertEqual(desk.say("put 4 ="), "1")
        self.assertEqual(desk.say("levels"), "4 / 1 2 3 | 4")

    def test_trees_without_a_history(self):
        rule = Rule(2, 2, 2, 2)
        tree = Tree(rule, (((5, 6),), ((1, 2), (5,), (6, 7))))
        desk = Desk()
        desk.say("rule 2 2 2 2")
        self.assertEqual(desk.say("open " + show_file(file_of(tree)).replace("\n", " / ")), "ok")
        self.assertEqual(desk.say("verdict"), "struck 1 1 few")
        self.assertEqual(levels_of(read_file(desk.say("file").replace(" / ", "\n"))), tree.levels)


class All(unittest.TestCase):
    def test_all_lines(self):
        desk = Desk()
        answers = desk.say_all("put 1 =a", "put 2 =b", "get 1", "scan 0 9", "undo 1", "size")
        self.assertTrue(same(answers, ["1", "2", "=a", "1 =a 2 =b", "ok", "1 3 1"]))
        self.assertEqual(desk.say("size"), "1 3 1")
        self.assertEqual(desk.say_all(), [])
        self.assertEqual(desk.say("undo 1"), "ok")
        answers.append("more")
        self.assertEqual(desk.say("size"), "0 3 0")

    def test_an_error_changes_nothing(self):
        lines = ["put 9 =x", "strike 2", "rebuild", "undo 4", "rule 3 1 2 2", "put 4 =", "open head 2 0 / space 3 0 / leaf -",
                 "range 0 9"]
        wrong = ["size ", "get x", "strike 77", "undo 0", "rule 0 0 0 0", "open ", "open free", "put 1 =\n", None, 7]
        for many in range(len(lines) + 1):
            for line in wrong:
                desk = filled(1, 2, 3, 4)
                kept = shown(desk)
                with self.assertRaises((UnknownCommand, InvalidText, NoKey, NothingToUndo, InvalidRule, NotSound,
                                        InvalidValue)):
                    desk.say_all(*lines[:many], line, "put 5 =")
                self.assertEqual(shown(desk), kept)
                self.assertEqual(desk.say("undo 4"), "ok")
                self.assertEqual(desk.say("size"), "0 3 0")

    def test_as_single_lines(self):
        rng = random.Random(4)
        lines = [f"put {rng.randrange(30)} =v" for _ in range(20)] + ["undo 3", "rebuild", "file", "since 1" * 0 + "size"]
        first, second = Desk(), Desk()
        self.assertEqual(first.say_all(*lines), [second.say(line) for line in lines])
        self.assertEqual(shown(first), shown(second))

    def test_two_desks(self):
        first, second = filled(1), filled(2)
        first.say("rule 3 1 2 2")
        self.assertEqual(second.say("scan 0 9"), "2 =v2")
        self.assertEqual(Desk().say("size"), "0 3 0")
        self.assertEqual(second.say("file"), show_file(self.plain(2)).replace("\n", " / "))

    def plain(self, key):
        store = Store(Rule(*Desk.START))
        self.assertEqual(store.file, empty_file())
        store.put(key, f"v{key}")
        return store.file


if __name__ == "__main__":
    unittest.main()
