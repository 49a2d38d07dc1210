import random
import unittest

from keptbindings.errors import BadEdit, BadPlace, BadProject, BadSyntax, BadValue, KeptError, Refused
from keptbindings.histories import History, journal, recover
from keptbindings.operations import Operation
from keptbindings.projects import Edit, Project
from tests.running import POOL, runnable_projects
from tests.test_operations import at, extract_of, move_of, parameters_of, rename_of


def check_number(index, line):
    """The check number by the words of the document, worked out in another way."""
    total = index * 257 ** len(line)
    for place, char in enumerate(line):
        total += ord(char) * 257 ** (len(line) - 1 - place)
    return total % 9999991


def sealed(*lines):
    """A journal of these lines."""
    return "".join(line + " #" + str(check_number(index, line)).zfill(7) + "\n" for index, line in enumerate(lines))


class HistoryTest(unittest.TestCase):
    def test_examples_of_the_document(self):
        history = History(Project({"m": "x = 1;"}))
        self.assertEqual([history.do(Edit("m", 4, 5, "2")).text_of("m"), history.undo().text_of("m"), history.redo().text_of("m")],
                         ["x = 2;", "x = 1;", "x = 2;"])
        self.assertEqual((len(history.steps()), history.now().text_of("m")), (1, "x = 2;"))

    def test_do_undo_and_redo(self):
        project = Project({"m": "x = 1;"})
        history = History(project)
        self.assertEqual((history.now(), history.steps()), (project, []))
        steps = [Edit("m", 4, 5, str(number)) for number in range(2, 6)]
        for step in steps:
            self.assertEqual(history.do(step), history.now())
        self.assertEqual(history.now().text_of("m"), "x = 5;")
        self.assertTrue(history.steps() == steps)
        self.assertEqual([history.undo().text_of("m") for _ in range(4)], ["x = 4;", "x = 3;", "x = 2;", "x = 1;"])
        self.assertEqual(history.steps(), [])
        self.assertEqual([history.redo().text_of("m") for _ in range(2)], ["x = 2;", "x = 3;"])
        self.assertTrue(history.steps() == steps[:2])
        self.assertEqual(history.undo().text_of("m"), "x = 2;")
        self.assertEqual(history.redo().text_of("m"), "x = 3;")
        self.assertEqual(history.do(rename_of({("m", 0): "y"})).text_of("m"), "y = 3;")
        self.assertEqual(len(history.steps()), 3)
        with self.assertRaises(Refused):
            history.redo()
        self.assertEqual([history.undo().text_of("m") for _ in range(3)], ["x = 3;", "x = 2;", "x = 1;"])
        self.assertEqual(project.text_of("m"), "x = 1;")

    def test_nothing_to_go_back_to(self):
        history = History(project=Project({"m": "x = 1;"}))
        history.do(step=Edit("m", 4, 5, "2"))
        history.undo()
        for call in (history.undo, History(Project({})).undo, History(Project({})).redo):
            with self.assertRaises(Refused) as caught:
                call()
            self.assertEqual((caught.exception.reason, caught.exception.one, caught.exception.other), ("nothing", None, None))
        history.redo()
        with self.assertRaises(Refused) as caught:
            history.redo()
        self.assertEqual((caught.exception.reason, caught.exception.one, caught.exception.other), ("nothing", None, None))

    def test_what_raises_changes_nothing(self):
        history = History(Project({"m": "def f(a) { return a; } y = [f];", "n": ""}))
        history.do(Edit("m", 0, 0, " "))
        history.do(Edit("m", 0, 0, " "))
        history.undo()
        told = journal(history)
        for value in (None, 1, True, "undo", ("m", 0, 0, ""), [Edit("m", 0, 0, " ")], Project({}), {}):
            with self.assertRaises(BadValue) as caught:
                history.do(value)
            self.assertIs(caught.exception.value, value)
        for step, error in ((Edit("m", 0, 100, ""), BadEdit), (Edit("k", 0, 0, ""), BadEdit), (Edit("m", 0, 1, "if"), BadSyntax), (Edit("m", 29, 30, "q"), BadProject),
                            (at("drop", ("m", 5)), Refused), (at("drop", ("m", 4)), BadPlace)):
            with self.assertRaises(error):
                history.do(step)
        self.assertEqual(journal(history), told)
        self.assertEqual(history.now().text_of("m"), " def f(a) { return a; } y = [f];")
        self.assertEqual(history.redo().text_of("m"), "  def f(a) { return a; } y = [f];")

    def test_the_lists_are_new(self):
        history = History(Project({"m": "x = 1;"}))
        history.do(Edit("m", 0, 0, " "))
        history.steps().append(1)
        self.assertEqual(len(history.steps()), 1)


class JournalTest(unittest.TestCase):
    def test_line_by_line(self):
        project = Project({"n": "", "m": "def f(a, b) { show(a); return b; } # ~ x\ndef k(a) { return a; } y = fn: [f(1, 2), k(3)];"})
        history = History(project)
        history.do(rename_of({("m", 14 + 5): "p", ("m", 4): "h"}, [("m", 45), ("m", 0 + 45)]))
        history.do(Edit("n", 0, 0, "z = 'a ~s';\n"))
        history.undo()
        history.undo()
        history.redo()
        text = history.now().text_of("m")
        history.do(at("inline", ("m", text.index("k(3)"))))
        history.do(at("drop", ("m", text.index("k(a)"))))
        history.do(extract_of("m", 14, 22, "g"))
        text = history.now().text_of("m")
        history.do(parameters_of(("m", text.index("h(p")), ["b", "p"], [("q", "'~ ~'"), ("r", "- 1")]))
        history.do(move_of(("m", history.now().text_of("m").index("h(b")), "n"))
        history.undo()
        lines = [
            "module m ~def~sf(a,~sb)~s{~sshow(a);~sreturn~sb;~s}~s#~s~t~sx~ndef~sk(a)~s{~sreturn~sa;~s}~sy~s=~sfn:~s[f(1,~s2),~sk(3)];",
            "module n ~",
            "begin",
            "rename m:4=h m:19=p m:45 m:45",
            "edit n 0 0 ~z~s=~s'a~s~ts';~n",
            "undo",
            "undo",
            "redo",
            "inline m:" + str(project.text_of("m").index("k(3)")),
            "drop m:45",
            "extract m 14 22 g",
            "parameters m:" + str(text.index("h(p")) + " b p q=~'~t~s~t' r=~-~s1",
            "move m:" + str(text.index("h(p")) + " n",
            "undo",
        ]
        told = journal(history)
        self.assertEqual(told, sealed(*lines))
        (again, many) = recover(told)
        self.assertEqual(many, len(lines))
        self.assertEqual(journal(again), told)
        self.assertEqual(again.now(), history.now())
        self.assertTrue(again.steps() == history.steps())
        self.assertEqual(again.redo().modules(), history.redo().modules())

    def test_small_journals(self):
        self.assertEqual(journal(History(Project({}))), sealed("begin"))
        self.assertEqual(journal(History(Project({"m": "x = 1;"}))), "module m ~x~s=~s1; #8492259\nbegin #9651741\n")
        history = History(Project({"m": ""}))
        history.do(rename_of({}))
        self.assertEqual(journal(history=history), sealed("module m ~", "begin", "rename"))
        self.assertEqual(recover(journal(history))[1], 3)

    def history(self):
        history = History(Project({"m": "def f(a) { return a; } y = fn: f(1);", "n": "x = 1; # ~"}))
        history.do(rename_of({("m", 4): "g"}, [("m", 6)]))
        history.do(Edit("n", 4, 5, "2"))
        history.undo()
        history.do(at("inline", ("m", 31)))
        history.undo()
        history.redo()
        return history

    def test_journals_that_are_cut_off(self):
        told = journal(self.history())
        for end in range(len(told) + 1):
            (history, many) = recover(told[:end])
            self.assertEqual(many, told[:end].count("\n"))
            if many < 3:
                self.assertIsNone(history)
            else:
                self.assertEqual(journal(history), "".join(line + "\n" for line in told.split("\n")[:many]))

    def test_journals_with_another_character(self):
        told = journal(self.history())
        for place in range(len(told)):
            for char in "~ 1#\na:":
                if told[place] != char:
                    self.assertEqual(recover(told[:place] + char + told[place + 1:])[1], told[:place].count("\n"), (place, char))

    def test_lines_that_are_left_out_or_doubled(self):
        lines = journal(self.history()).split("\n")[:-1]
        for at_line in range(len(lines) - 1):
            self.assertEqual(recover("\n".join(lines[:at_line] + lines[at_line + 1:]) + "\n")[1], at_line)
        for at_line in range(len(lines)):
            self.assertEqual(recover("\n".join(lines[:at_line + 1] + lines[at_line:]) + "\n")[1], at_line + 1)

    def recovers(self, many, *lines):
        (history, found) = recover(sealed(*lines))
        self.assertEqual(found, many, lines)
        self.assertEqual(history is None, "begin" not in lines[:many])
        if history is not None:
            self.assertEqual(journal(history), sealed(*lines[:many]))

    def test_modules(self):
        self.recovers(0, "module m")
        self.recovers(0, "module m x")
        self.recovers(0, "module m ~x y")
        self.recovers(0, "module m ~~x")
        self.recovers(0, "module m ~x~")
        self.recovers(0, "module m ~x ")
        self.recovers(0, " module m ~")
        self.recovers(0, "modul m ~")
        self.recovers(0, "")
        self.recovers(2, "module m ~", "module n ~", "module n ~", "begin")
        self.recovers(2, "module m ~", "module n ~", "module a ~", "begin")
        # Names and texts are looked at where the lines begin end.
        self.recovers(1, "module M ~", "begin")
        self.recovers(2, "module 2 ~", "module m ~", "begin")
        self.recovers(1, "module if ~", "begin")
        self.recovers(1, "module m ~x", "begin")
        self.recovers(1, "module m ~A", "begin")
        self.recovers(1, "module m ~x~s=~sy;", "begin")
        self.recovers(1, "module m ~" + "~s" * 5001, "begin")
        self.recovers(2, "module m ~" + "~s" * 5000, "begin")
        self.recovers(1, "begin")
        self.recovers(1, "begin", "begin")
        self.recovers(2, "module m ~", "begin", "module n ~")
        self.recovers(1, "module m ~", "undo")
        self.recovers(1, "module m ~", "edit m 0 0 ~")
        self.recovers(3, "module m ~x~s=~s1;", "module n ~import~sm;", "begin")

    def test_steps_that_are_written_otherwise(self):
        start = ("module m ~def~sf(a,~sb)~s{~sshow(a);~sreturn~sb;~s}", "module n ~", "begin")
        self.recovers(4, *start, "edit m 0 0 ~")
        self.recovers(4, *start, "rename m:4=g m:6=c m:9")
        self.recovers(4, *start, "parameters m:4 a b")
        self.recovers(4, *start, "extract m 14 22 g")
        self.recovers(4, *start, "move m:4 n")
        self.recovers(4, *start, "drop m:4")
        for line in ("edit m 00 0 ~", "edit m 0 0", "edit m 0 0 ", "edit m 0 0 x", "edit m 0 0 ~ ~", "edit m -0 0 ~", "edit m +0 0 ~", "edit m 0x0 0 ~", "edit m 0 1000 ~",
                     "edit m 1 0 ~", "edit k 0 0 ~", "edit  m 0 0 ~", "edit m 0 0 ~A", "edit m 0 0 ~~q", "edit m 0 99999999999999999999 ~", "edit m 0 " + "1" * 5000 + " ~",
                     "edit m \u0660 0 ~", "edit m \u00b2 0 ~", "Edit m 0 0 ~", "edit", "",
                     "rename m:6=c m:4=g", "rename m:4=g m:4=h", "rename m:4=g m:4=g", "rename m:9 m:4=g", "rename m:4=", "rename m:4=G", "rename m4=g", "rename m:=g",
                     "rename :4=g", "rename m:04=g", "rename ", "rename m:4=g ", "rename m:3=g", "rename m:4:4=g", "rename m:4=g=h", "rename m:4=g m:3",
                     "drop", "drop m:3", "drop m:4 ", "drop m:4 m:4", "drop m4", "inline m:4", "move m:4", "move m:4 m", "move m:4 k", "move m:4 n n", "move n", "move",
                     "extract m 14 22", "extract m 14 22 f", "extract m 14 22 len", "extract m 14 22 g h", "extract m 14 23 g", "extract m 014 22 g", "extract m a 22 g",
                     "parameters", "parameters m:4 a", "parameters m:4 b a a", "parameters m:4 b a c", "parameters m:4 b a c=1", "parameters m:4 b a c=~1 c=~1",
                     "parameters m:4 c=~1 a b", "parameters m:4 b a c=~x", "parameters m:6 a b", "parameters m:4 b  a", "parameters m:4 b a c=", "parameters m:4 b a c",
                     "undo", "redo", "undo ", "do", "begin", "module o ~"):
            self.recovers(3, *start, line)
        self.recovers(6, *start, "edit m 0 0 ~~s", "undo", "redo", "redo")
        self.recovers(5, *start, "edit m 0 0 ~~s", "undo", "undo")
        self.recovers(6, *start, "edit m 0 0 ~~s", "undo", "edit m 0 0 ~~n", "redo")
        self.recovers(4, *start, "edit m 0 0 ~~s", "rename m:4=g")

    def test_check_numbers(self):
        good = sealed("module m ~", "begin")
        self.assertEqual(recover(good)[1], 2)
        for bad in (good.replace(" #", "#"), good.replace(" #", "  #"), good.replace("\n", " \n"), good.replace("\n", "\r\n"), good.replace(" #", " # ")):
            self.assertEqual(recover(bad), (None, 0))
        self.assertEqual(recover(good[:-1])[1], 1)
        self.assertEqual(recover(good + "x")[1], 2)
        self.assertEqual(recover(good + "\n")[1], 2)
        self.assertEqual(recover("")[0:2], (None, 0))
        self.assertEqual(recover("\n"), (None, 0))
        # The index of a line is part of its number.
        lines = good.split("\n")
        self.assertEqual(recover(lines[1] + "\n"), (None, 0))
        # Seven digits, also for small numbers.
        self.assertIn(" #0", sealed(*["module m ~" + "x" * many for many in range(60)]))
        self.assertEqual(recover(sealed("begin").replace("#", "#0")), (None, 0))

    def test_wrong_texts(self):
        for value in (None, 1, True, b"begin", ["begin"], ("a",), {}):
            with self.assertRaises(BadValue) as caught:
                recover(value)
            self.assertIs(caught.exception.value, value)
        self.assertEqual(recover(text="")[1], 0)

    def test_texts_of_all_characters(self):
        history = History(Project({"m": "# \u20ac ~~ s n t \n x = '\t~n'; # \U0001f600 #0000000"}))
        told = journal(history)
        self.assertEqual(told, sealed("module m ~#~s\u20ac~s~t~t~ss~sn~st~s~n~sx~s=~s'\t~tn';~s#~s\U0001f600~s#0000000", "begin"))
        self.assertEqual(recover(told)[0].now(), history.now())

    def test_random_histories(self):
        source = random.Random(17)
        for project in runnable_projects(source, 12):
            history = History(project)
            calls = 0
            for _ in range(25):
                places = sorted(history.now().naming().sights)
                place = source.choice(places)
                step = source.choice([rename_of({place: source.choice(POOL)}), at("inline", place), at("drop", place), parameters_of(place, []),
                                      Edit("m", 0, 0, source.choice([" ", "\n", "# ~\n"])), move_of(place, "n"), "undo", "redo"])
                try:
                    if isinstance(step, str):
                        history.undo() if step == "undo" else history.redo()
                    else:
                        history.do(step)
                    calls += 1
                except KeptError:
                    continue
            told = journal(history)
            (again, many) = recover(told)
            self.assertEqual(many, len(project) + 1 + calls)
            self.assertEqual(again.now(), history.now())
            self.assertEqual(journal(again), told)
            self.assertTrue(again.steps() == history.steps())


if __name__ == "__main__":
    unittest.main()
