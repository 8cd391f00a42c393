"""[45] to [47]: the desk."""

import unittest

from refusals import refusal
from strangemill.desk import Desk
from strangemill.errors import BadHouse, BadLine, NoAsk, NoName, NoRun, NoStep, NoUnit, NoWay, Stands, Taken, TwoUnits
from strangemill.house import House
from strangemill.look import road_of
from strangemill.texts import read_unit, written

ECHO = "way go gives num\nask\ngive"
MAIN = f"kind Main\n{ECHO}"
LOW = "kind Low above Main\nfield total num"
FACE = "face Goer\nway go gives num"
BAD = "kind Main\nway go gives num\ngiv"


def desk_of(*texts):
    desk = Desk()
    desk.change(list(texts))
    return desk


class Changes(unittest.TestCase):

    def test_at_first_there_is_nothing(self):
        desk = Desk()
        self.assertEqual((desk.neat(), desk.house(), desk.kept(), desk.renew()), ([], House([]), [], []))
        self.assertEqual(refusal(desk.undo), (NoStep,))

    def test_change(self):
        desk = Desk()
        self.assertIsNone(desk.change([LOW, FACE, MAIN]))
        self.assertEqual(desk.house(), House([read_unit(text) for text in (MAIN, LOW, FACE)]))
        desk.change(["kind Low above Main faces Goer"])
        self.assertEqual(desk.house().unit_of("Low"), ("kind", "Low", "Main", ("Goer",), (), ()))
        desk.change([], out=["Low"])
        self.assertEqual([unit[1] for unit in desk.house().units()], ["Goer", "Main"])

    def test_neat(self):
        desk = desk_of("kind Zed\nway go gives num\nat begin 0\nmark other\njump begin", MAIN, FACE)
        self.assertEqual(desk.neat(), [FACE, MAIN, "kind Zed\nway go gives num\nat r0 0\njump r0"])
        self.assertEqual(desk.neat(), [written(unit) for unit in desk.house().units()])
        desk.neat().clear()
        self.assertEqual(len(desk.neat()), 3)

    def test_refusals(self):
        desk = desk_of(MAIN)
        for told, texts, out in (
            ((BadLine, 2), [BAD], ()), ((BadLine, 2), [LOW, BAD, "kind", "nothing"], ()), ((BadLine, 0), [LOW, "kind", BAD], ()),
            ((TwoUnits, "Low"), [LOW, LOW], ()), ((NoUnit, "Low"), [], ("Low",)), ((NoUnit, "Main"), [MAIN], ("Main",)),
            ((BadHouse, "Low", "above"), [LOW], ("Main",)), ((BadHouse, "Main", "faces"), ["kind Main faces Goer"], ()),
            # A text that is not right is due ahead of all else.
            ((BadLine, 2), [LOW, LOW, BAD], ("Nobody",)), ((BadLine, 0), [MAIN, ""], ("Main", "Nobody")),
            ((TwoUnits, "Low"), [LOW, LOW], ("Nobody",)), ((NoUnit, "Nobody"), ["kind Ring above Ring"], ("Nobody",)),
        ):
            self.assertEqual(refusal(desk.change, texts, out=out), told)
            self.assertEqual(desk.neat(), [MAIN])

    def test_undo_again_and_again(self):
        desk = Desk()
        houses = [desk.house()]
        for texts, out in (([MAIN], ()), ([LOW], ()), ([], ()), ([FACE], ("Low",)), ([LOW, MAIN], ("Goer",)), ([LOW, MAIN], ())):
            desk.change(texts, out=out)
            houses.append(desk.house())
            self.assertIsNotNone(refusal(desk.change, [BAD]))
            self.assertIsNotNone(refusal(desk.change, [LOW, LOW]))
        for house in houses[-2::-1]:
            self.assertIsNone(desk.undo())
            self.assertEqual(desk.house(), house)
        self.assertEqual(refusal(desk.undo), (NoStep,))
        self.assertEqual(desk.neat(), [])

    def test_undo_and_change_again(self):
        desk = desk_of(MAIN)
        desk.change([LOW])
        desk.undo()
        desk.change([FACE])
        desk.undo()
        self.assertEqual(desk.neat(), [MAIN])
        desk.undo()
        self.assertEqual(refusal(desk.undo), (NoStep,))
        desk.change([])
        desk.undo()
        self.assertEqual(refusal(desk.undo), (NoStep,))

    def test_the_list_that_is_handed_in_stays(self):
        texts = [MAIN, LOW]
        desk = desk_of(*texts)
        desk.change(texts)
        self.assertEqual(texts, [MAIN, LOW])
        texts.clear()
        self.assertEqual(len(desk.house()), 2)


class Verdicts(unittest.TestCase):

    def test_let_by(self):
        desk = desk_of(MAIN, LOW)
        self.assertEqual(desk.verdict("Main", "go"), "let by")
        self.assertEqual(desk.verdict("Low", "go"), "let by")

    def test_wrong(self):
        for rows, told in (
            ("drop", "wrong at 0: low"), ("ask", "wrong at 0 1: off"), ("ask\nat b 0\ngive", "wrong at 0 1: height"),
            ("ask\nnew Nobody", "wrong at 0 1: lack"), ("get 0\nsay", "wrong at 0 1: num"), ("num 1\nfits Main", "wrong at 0 1: thing"),
            ("get 0\nread Low total\ngive", "wrong at 0 1: fits"), ("num 1\n" * 8 + "ask", "wrong at 0 1 2 3 4 5 6 7 8: high"),
            ("ask\nnought on\nask\ngive\nat on 0\ndrop", "wrong at 0 1 4: low"),
        ):
            desk = desk_of(f"kind Main\nway go gives num\n{rows}", LOW)
            self.assertEqual(desk.verdict("Main", "go"), told)
            self.assertEqual(desk.verdict("Low", "go"), told)
            self.assertEqual(told, f"wrong at {' '.join(str(row) for row in road_of(desk.house(), 'Main', 'go'))}: {told.split(': ')[1]}")

    def test_the_word_is_one_that_is_due_first(self):
        # What is on the top is a thing, too, and is looked at first.
        desk = desk_of("kind Main\nway go gives num\nget 0\nnum 1\nget 0\nwrite Main none\nnum 1\ngive")
        self.assertEqual(desk.verdict("Main", "go"), "wrong at 0 1 2 3: lack")
        desk.change(["kind Main\nfield a num\nway go gives num\nnum 1\nget 0\nwrite Main a\nnum 1\ngive"])
        self.assertEqual(desk.verdict("Main", "go"), "wrong at 0 1 2: num")
        desk.change(["kind Main\nfield a Main\nway go gives num\nget 7\nget 7\nwrite Main a\nnum 1\ngive"])
        self.assertEqual(desk.verdict("Main", "go"), "wrong at 0 1 2: thing")

    def test_refusals(self):
        desk = desk_of(MAIN, FACE)
        for name in ("Nobody", "", "Goer"):
            self.assertEqual(refusal(desk.verdict, name, "go"), (NoUnit, name))
        self.assertEqual(refusal(desk.verdict, "Main", "none"), (NoWay, "Main", "none"))
        desk.undo()
        self.assertEqual(refusal(desk.verdict, "Main", "go"), (NoUnit, "Main"))


class Kept(unittest.TestCase):

    TEXT = "kind Main\nway go num gives num\nask\nsay\nget 1\nask\nplus\ngive\nway bad gives num\ndrop\nway none gives num\nnum 5\ngive"

    def test_start_answer_where_frames_drop(self):
        desk = desk_of(self.TEXT)
        self.assertEqual(desk.start("one", "Main", "go", (3,)), ("ask",))
        self.assertEqual(desk.start("", "Main", "none"), ("gave", 5))
        self.assertEqual(desk.kept(), ["", "one"])
        self.assertEqual(desk.frames("one"), [("Main", "go", 0, 0, ("-", 3) + ("-",) * 6, ())])
        self.assertEqual(desk.where("one"), ("ask",))
        self.assertEqual(desk.answer("one", 8), ("ask",))
        self.assertEqual(desk.frames("one"), [("Main", "go", 0, 3, ("-",) * 8, (3,))])
        self.assertEqual(desk.answer("one", 10 ** 12 + 9), ("gave", -10 ** 12 + 12))
        self.assertEqual((desk.where("one"), desk.frames("one")), (("gave", -10 ** 12 + 12), []))
        self.assertEqual(refusal(desk.answer, "one", 1), (NoAsk,))
        # One that has ended is kept still, till it is let go.
        self.assertEqual(refusal(desk.start, "one", "Main", "none"), (Taken, "one"))
        self.assertIsNone(desk.drop("one"))
        self.assertEqual(desk.kept(), [""])
        self.assertEqual(desk.start("one", "Main", "none"), ("gave", 5))

    def test_names_are_any_texts_and_sorted(self):
        desk = desk_of(self.TEXT)
        for name in ("b", "a b", "B", "", "10", "9", "\n", "a"):
            desk.start(name, "Main", "none")
        self.assertEqual(desk.kept(), sorted(["b", "a b", "B", "", "10", "9", "\n", "a"]))
        desk.kept().clear()
        self.assertEqual(len(desk.kept()), 8)

    def test_refusals(self):
        desk = desk_of(self.TEXT)
        desk.start("one", "Main", "go", (3,))
        for name in ("two", "", "On"):
            for act, more in ((desk.answer, (1,)), (desk.where, ()), (desk.frames, ()), (desk.drop, ())):
                self.assertEqual(refusal(act, name, *more), (NoName, name))
        for told, told_by in (
            ((NoRun, "kind"), ("Nobody", "go")), ((NoRun, "way"), ("Main", "nothing")), ((NoRun, "takes"), ("Main", "go")),
            ((NoRun, "barred"), ("Main", "bad")),
        ):
            self.assertEqual(refusal(desk.start, "two", *told_by), told)
            self.assertEqual(refusal(desk.start, "one", *told_by), (Taken, "one"))
            self.assertEqual(desk.kept(), ["one"])
        self.assertEqual(refusal(desk.where, "two"), (NoName, "two"))
        self.assertEqual(desk.frames("one")[0][3], 0)

    def test_runs_begin_in_the_present_house_and_stay_in_theirs(self):
        desk = desk_of(self.TEXT)
        desk.start("one", "Main", "go", (3,))
        desk.change([MAIN])
        self.assertEqual(desk.start("two", "Main", "go"), ("ask",))
        self.assertEqual(refusal(desk.start, "three", "Main", "none"), (NoRun, "way"))
        self.assertEqual(desk.answer("one", 1), ("ask",))
        desk.undo()
        self.assertEqual(desk.answer("two", 1), ("gave", 1))
        self.assertEqual(desk.start("three", "Main", "none"), ("gave", 5))


class Renew(unittest.TestCase):

    # The way go calls the way next behind its ask, and holds a thing of Base.
    BASE = "kind Base\nfield many num"
    MAIN = "\n".join(["kind Main", "way next gives num", "num 1", "give", "way go gives num", "num 7", "new Base", "put 1", "ask", "get 0",
                      "call Main next", "plus", "get 1", "read Base many", "plus", "give", "way plain gives num", "ask", "give"])

    def test_waiting_ended_and_the_same(self):
        desk = desk_of(self.MAIN, self.BASE)
        for name in ("c", "a", "b", "d"):
            self.assertEqual(desk.start(name, "Main", "plain" if name == "d" else "go"), ("ask",))
        self.assertEqual(desk.answer("b", 0), ("gave", 8))
        self.assertEqual(desk.renew(), [("a", "same"), ("c", "same"), ("d", "same")])
        newer = self.MAIN.replace("num 1\ngive", "num 100\ngive")
        desk.change([newer, "kind More"])
        self.assertEqual(desk.start("late", "Main", "go"), ("ask",))
        self.assertEqual(desk.renew(), [("a", "newer"), ("c", "newer"), ("d", "newer"), ("late", "same")])
        self.assertEqual(desk.renew(), [("a", "same"), ("c", "same"), ("d", "same"), ("late", "same")])
        self.assertEqual(desk.answer("a", 0), ("gave", 107))
        self.assertEqual(desk.where("b"), ("gave", 8))
        desk.undo()
        self.assertEqual(desk.renew(), [("c", "newer"), ("d", "newer"), ("late", "newer")])
        self.assertEqual(desk.answer("c", 0), ("gave", 8))

    def test_barred_by_a_thing(self):
        desk = desk_of(self.MAIN, self.BASE)
        desk.start("go", "Main", "go")
        desk.start("plain", "Main", "plain")
        desk.change(["kind Base\nfield many Base"])
        self.assertEqual(desk.renew(), [("go", "thing"), ("plain", "newer")])
        desk.change([], out=("Base",))
        self.assertEqual(desk.renew(), [("go", "thing"), ("plain", "newer")])
        self.assertEqual(desk.frames("go")[0][2], 0)
        # It goes on in its own house.
        self.assertEqual(desk.answer("go", 2), ("gave", 10))

    def test_barred_by_a_frame(self):
        desk = desk_of(self.MAIN, self.BASE)
        desk.start("go", "Main", "go")
        desk.start("plain", "Main", "plain")
        desk.change(["kind Main"])
        self.assertEqual(desk.renew(), [("go", "frame"), ("plain", "newer")])
        self.assertEqual(desk.renew(), [("go", "frame"), ("plain", "same")])
        # What bars it may go again.
        desk.change(["kind Main\nway next gives num\nnum 50\ngive"])
        self.assertEqual(desk.renew(), [("go", "newer"), ("plain", "newer")])
        self.assertEqual(desk.answer("go", 2), ("gave", 59))
        self.assertEqual(desk.answer("plain", 2), ("gave", 2))

    def test_units_that_go_and_editions(self):
        desk = desk_of(self.MAIN, self.BASE, "kind Other above Base")
        desk.start("plain", "Main", "plain")
        self.assertEqual(desk.frames("plain")[0][2], 0)
        deep = self.MAIN.replace("way plain gives num\nask\ngive", "way plain gives num\nask\nget 0\ncall Main late\nplus\ngive\nway late gives num\nask\ngive")
        desk.change([deep], out=("Other",))
        self.assertEqual(desk.renew(), [("plain", "newer")])
        desk.start("deep", "Main", "plain")
        self.assertEqual((desk.answer("plain", 4), desk.answer("deep", 4)), (("gave", 4), ("ask",)))
        self.assertEqual([frame[:3] for frame in desk.frames("deep")], [("Main", "plain", 0), ("Main", "late", 0)])
        desk.undo()
        self.assertEqual(desk.renew(), [("deep", "newer")])
        self.assertEqual(desk.answer("deep", 5), ("gave", 9))

    def test_a_run_that_was_renewed_goes_on_by_the_newer_editions(self):
        text = "kind Main\nway go gives num\nask\nget 0\ncall Main late\nplus\ngive\nway late gives num\nask\ngive"
        desk = desk_of(text, self.BASE)
        desk.start("one", "Main", "go")
        for number in (5, 6):
            desk.change([text.replace("way late gives num\nask", f"way late gives num\nask\nnum {number}\nplus")])
            self.assertEqual(desk.renew(), [("one", "newer")])
        desk.answer("one", 1)
        self.assertEqual([frame[:3] for frame in desk.frames("one")], [("Main", "go", 0), ("Main", "late", 2)])
        self.assertEqual(desk.answer("one", 10), ("gave", 17))

    def test_the_list_is_the_askers_own(self):
        desk = desk_of(self.MAIN, self.BASE)
        desk.start("one", "Main", "go")
        desk.renew().clear()
        self.assertEqual(desk.renew(), [("one", "same")])


class Form(unittest.TestCase):

    def test_each_method_is_defined_in_the_class_itself(self):
        for name in "change undo neat house verdict start answer where frames kept drop renew".split():
            self.assertIn(name, vars(Desk))
        self.assertEqual(Desk.__module__, "strangemill.desk")

    def test_stands_is_no_refusal_of_the_desk(self):
        desk = desk_of(Renew.MAIN, Renew.BASE)
        desk.start("go", "Main", "go")
        desk.change(["kind Main"])
        self.assertIsNone(refusal(desk.renew))
        self.assertTrue(issubclass(Stands, ValueError))


if __name__ == "__main__":
    unittest.main()
