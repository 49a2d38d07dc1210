"""Renames, inlines and drops are held against runs: these give the same behind each change."""

import random
import unittest

from keptbindings.errors import BadPlace, Refused
from keptbindings.inlines import drop, inline
from keptbindings.projects import Project
from keptbindings.renames import rename
from keptbindings.runs import run
from tests.programs import random_projects, random_returns
from tests.running import POOL, compare_runs, runnable_projects


def project_of(**texts):
    return Project(texts)


class RunsBehindChangesTest(unittest.TestCase):
    def gives(self, project, value, *arguments, module="m", name="f"):
        found = run(project, module, name, list(arguments))
        self.assertEqual((found.value, found.error), (value, None))

    def test_a_rename_with_fresh_names(self):
        project = project_of(m="x = 1; def f(y) { g = fn x2: [x, y, x2]; return [g(3), [y for y in [x]]]; }")
        change = rename(project, {("m", 0): "y"})
        self.assertTrue(change.further)
        for one in (change.old, change.new):
            self.gives(one, "[[1, 2, 3], [1]]", 2)

    def test_an_inline_where_names_are_caught(self):
        project = project_of(m="x = 1; def k(a) { return [x, fn b: [a, b]]; } def f(x) { b = 5; return (k(x)[1])(b) + [k(x)[0]]; }")
        text = project.text_of("m")
        change = inline(project, ("m", text.index("k(x)[1]")))
        self.assertTrue(change.further)
        for one in (change.old, change.new):
            self.gives(one, "[7, 5, 1]", 7)

    def test_an_inline_of_arguments_that_are_not_safe(self):
        project = project_of(m="def t(x) { show(x); return x; } def k(a, b) { return [b, a, b]; } def f() { return k(t(1), b = t(2)); }")
        change = inline(project, ("m", project.text_of("m").index("k(t")))
        for one in (change.old, change.new):
            found = run(one, "m", "f", [])
            self.assertEqual((found.value, found.output), ("[2, 1, 2]", ["1", "2"]))

    def test_a_drop(self):
        project = project_of(m="def f() { return 1; }\ndef g() { return f(); }\n")
        change = drop(project, ("m", 26))
        self.gives(change.new, "1")

    def test_random_renames(self):
        source = random.Random(19)
        for project in runnable_projects(source, 25) + random_projects(source, 25):
            places = sorted(project.naming().sights)
            for place in source.sample(places, min(8, len(places))):
                try:
                    change = rename(project, {place: source.choice(POOL)})
                except Refused:
                    continue
                self.assertTrue(change.keeps())
                compare_runs(self, change, exact=True)

    def test_random_inlines_and_drops(self):
        source = random.Random(23)
        done = 0
        for project in runnable_projects(source, 60) + random_returns(source, 40):
            for place in sorted(project.naming().sights):
                for make in (inline, drop):
                    try:
                        change = make(project, place)
                    except (BadPlace, Refused):
                        continue
                    self.assertTrue(change.keeps())
                    compare_runs(self, change)
                    done += 1
        self.assertGreater(done, 60)


if __name__ == "__main__":
    unittest.main()
