import random
import unittest

from streamwrights.console import Console
from streamwrights.errors import (InvalidCommand, NoAnswer, NoName, NotAlike, NothingToRedo, NothingToUndo, OtherTexts,
                                  Stops, StreamError)
from streamwrights.formats import Format
from streamwrights.house import House
from streamwrights.lines import Line, whole
from streamwrights.makers import spelled
from streamwrights.once import is_once
from streamwrights.tables import table_of
from tests import linereckoning, reckoning
from tests.linereckoning import ANY, EMPTY_FORM
from tests.samples import AB, ASIDE, EMPTY, FORKED, LATE

DOUBLE = Line(ANY, (spelled((("a", "aa"), ("b", ""))),))
SWAP = Line(ANY, (spelled((("a", "b"), ("b", "a"))),))
STOP = Line(ANY, (spelled((("a", "b"),)),))
LATE_LINE = Line(LATE.domain(), (LATE,))
ASIDE_LINE = Line(ASIDE.domain(), (ASIDE,))


def shown(line):
    return str(line).replace("\n", ";")


def bring(name, line):
    return f"bring {name} {shown(line)}"


class ConsoleTest(unittest.TestCase):

    def refused(self, kind, console, command):
        with self.assertRaises(kind) as caught:
            console.run(command)
        return caught.exception

    def test_all_commands(self):
        console = Console()
        run = console.run
        self.assertEqual(run(command="names"), "-")
        self.assertEqual([run(bring("double", DOUBLE)), run(bring("a", SWAP)), run("names")], ["ok", "ok", "a double"])
        self.assertEqual([run("lead double aba"), run("lead double b"), run("lead double -"), run("lead double z")],
                         ["aaaa", "-", "-", "!"])
        self.assertEqual([run("back double aa"), run("back double -"), run("back double a"), run("back a ab")],
                         ["a", "-", "!", "ba"])
        self.assertEqual([run(bring("double", SWAP)), run(bring("double", STOP)), run(bring("double", ASIDE_LINE)),
                          run(bring("double", DOUBLE)), run("editions double"), run("editions a")],
                         ["no", "no", "no", "ok", "2", "1"])
        self.assertEqual([run(bring("new", STOP)), run("names")], ["no", "a double"])
        self.assertEqual([run(bring("late", LATE_LINE)), run("once late"), run("once double"), run("marks late")],
                         ["ok", "no", "yes", "2 3"])
        self.assertEqual([run(bring("abcdefgh", ASIDE_LINE)), run("marks abcdefgh"), run("marks double")],
                         ["ok", "2 2", "1 1"])
        self.assertEqual([run("drop late"), run("undo"), run("redo"), run("names"), run("undo"), run("undo"), run("names")],
                         ["ok", "ok", "ok", "a abcdefgh double", "ok", "ok", "a double late"])

    def test_houses_of_their_own(self):
        one, other = Console(), Console()
        one.run(bring("a", SWAP))
        self.assertEqual((one.run("names"), other.run("names")), ("a", "-"))

    def test_lines_without_texts(self):
        console = Console()
        self.assertEqual(console.run(bring("a", Line(EMPTY_FORM, (EMPTY,)))), "ok")
        self.assertEqual([console.run(command) for command in ("lead a -", "back a -", "marks a", "once a")],
                         ["!", "!", "0 0", "yes"])

    def test_first_texts(self):
        console = Console()
        console.run(bring("a", Line(ANY, (spelled((("a", "c"), ("b", "c"))),))))
        self.assertEqual(console.run("back a ccc"), "aaa")
        console.run(bring("b", Line(Format.by_expression("((b b) | (a b a))"), (spelled((("a", ""), ("b", "q"))),))))
        self.assertEqual((console.run("back b qq"), console.run("back b q")), ("bb", "aba"))

    def test_wrong_forms(self):
        console = Console()
        console.run(bring("a", SWAP))
        text = shown(SWAP)
        for command in ("", " ", "names ", " names", "Names", "names a", "name", "undo a", "undo ", "redo x", "redo  ",
                        "drop", "drop ", "drop  a", "drop a ", "drop A", "drop a a", "drop -", "drop abcdefghi", "drop a1",
                        "lead", "lead a", "lead a ", "lead a  ab", "lead a A", "lead a ab ", "lead a ab b", "lead a --",
                        "lead a -a", "lead  ab", "lead - ab", "back a", "back a B", "back a a a", "marks", "marks a a",
                        "once", "once A", "once a -", "editions", "editions a -", "stands a", "desk a", "names\n",
                        "drop a\n", "lead a\nab", "bring", "bring a", "bring a ", f"bring {text}", f"bring A {text}",
                        f"bring a  {text}", f"bring a {text} ", f"bring a {text};", f" bring a {text}", f"bring  a {text}",
                        f"bring abcdefghi {text}", f"bring - {text}", f"bring a {text}".replace(";", "\n"),
                        f"bring a {text}".replace(";", "\n", 1), f"bring a {text}\n", "bring a ;" + text,
                        bring("a", ASIDE), bring("a", AB), "bring a format 1;ends -;stage",
                        "bring a " + shown(AB) + ";stage;" + str(FORKED).replace("\n", ";"),
                        "bring a format 2;ends -;move 0 a 0;move 0 a 1;stage;translator 0",
                        bring("a", Line(ANY, (EMPTY,) * 4)) + ";stage;translator 0", f"lead a {'a' * 10}-", "exit",
                        "bring new " + text.replace("translator", "Translator")):
            self.refused(InvalidCommand, console, command)
        for thing in reckoning.any_values() + [b"names", ["names"], ("names",), {"names": 1}, None, 1, console, SWAP]:
            self.refused(InvalidCommand, console, thing)
        self.assertEqual((console.run("names"), console.run("editions a")), ("a", "1"))

    def test_changed_commands(self):
        console = Console()
        console.run(bring("a", SWAP))
        console.run(bring("a", SWAP))
        for command in ("names", "lead a ab", "back a ab", "marks a", "once a", "editions a"):
            for odd in reckoning.mutations(command):
                try:
                    self.assertIsInstance(console.run(odd), str)
                except NoName as error:
                    self.assertTrue(odd.split(" ")[1] == error.name != "a")
                except InvalidCommand:
                    self.assertNotEqual(odd, command)
        self.assertEqual(console.run("editions a"), "2")

    def test_errors_in_their_order(self):
        console = Console()
        for command in ("drop b", "lead b ab", "lead b -", "editions b", "marks b", "once b", "back b a"):
            self.assertEqual(self.refused(NoName, console, command).name, "b")
            # Wrong forms come first.
            self.refused(InvalidCommand, console, command + " a b")
        self.refused(InvalidCommand, console, "lead b AB")
        self.refused(NothingToUndo, console, "undo")
        self.refused(NothingToRedo, console, "redo")
        console.run(bring("b", SWAP))
        console.run("drop b")
        self.assertEqual(self.refused(NoName, console, "lead b ab").name, "b")
        self.refused(NothingToRedo, console, "redo")
        self.assertEqual([console.run("undo"), console.run("undo")], ["ok", "ok"])
        self.refused(NothingToUndo, console, "undo")

    def test_refused_lines_change_nothing(self):
        console = Console()
        console.run(bring("a", SWAP))
        console.run(bring("a", SWAP))
        console.run("undo")
        for line in (DOUBLE, STOP, ASIDE_LINE):
            self.assertEqual(console.run(bring("a", line)), "no")
        self.assertEqual([console.run("redo"), console.run("editions a")], ["ok", "2"])

    def test_against_a_house(self):
        rng = random.Random(31)
        lines = linereckoning.fitting_lines(131, 10) + [SWAP, DOUBLE, STOP, LATE_LINE, ASIDE_LINE]
        lines += [other for line in lines[:8] for other in linereckoning.like_lines(rng, line)]
        for _ in range(20):
            console, house = Console(), House()
            for _ in range(50):
                command = self.command(rng, lines)
                try:
                    wanted = self.by_house(house, command)
                except StreamError as error:
                    caught = self.refused(type(error), console, command if isinstance(command, str) else " ".join(command))
                    self.assertEqual(vars(caught), vars(error))
                    continue
                self.assertEqual(console.run(bring(command[1], command[2]) if command[0] == "bring" else " ".join(command)),
                                 wanted)

    def command(self, rng, lines):
        name = rng.choice(["one", "two"])
        word = "".join(rng.choice("ab") for _ in range(rng.randint(0, 4))) or "-"
        kind = rng.choice(["bring", "bring", "bring", "drop", "lead", "lead", "names", "editions", "marks", "once", "back",
                           "undo", "redo"])
        if kind == "bring":
            return (kind, name, rng.choice(lines))
        if kind in ("lead", "back"):
            return (kind, name, word)
        return (kind,) if kind in ("names", "undo", "redo") else (kind, name)

    def by_house(self, house, command):
        kind, *more = command
        word = more[1].replace("-", "") if kind in ("lead", "back") else ""
        if kind == "bring":
            try:
                house.bring(*more)
            except (Stops, OtherTexts, NotAlike):
                return "no"
            return "ok"
        if kind == "names":
            return " ".join(house.names) or "-"
        if kind == "editions":
            return str(len(house.editions(more[0])))
        if kind == "marks":
            table = table_of(whole(house.in_use(more[0])))
            return f"{table.lefts} {table.rights}"
        if kind == "once":
            return "yes" if is_once(whole(house.in_use(more[0]))) else "no"
        if kind == "back":
            text = house.come_from(more[0], word).first_text()
            return "!" if text is None else text or "-"
        if kind == "lead":
            try:
                return house.lead(more[0], word) or "-"
            except NoAnswer:
                return "!"
        {"drop": house.drop, "undo": house.undo, "redo": house.redo}[kind](*more)
        return "ok"


if __name__ == "__main__":
    unittest.main()
