"""Stage 14: a desk."""

import itertools
import time
import unittest

from tests import model
from tests.samples import H, S, Case, wide_hall, wide_state
from turndoors.bands import bands, reach, still_doors
from turndoors.connect import connect
from turndoors.crowding import most_in
from turndoors.desk import Desk
from turndoors.errors import (
    Blocked, Full, InvalidCommand, InvalidText, Mismatch, UnknownDoor, UnknownRoom, UnknownWalker,
)
from turndoors.keeper import Keeper
from turndoors.reachable import count_states
from turndoors.states import counts
from turndoors.texts import format_hall, format_state

HALL = "hall rooms a b c ; door x a b ; door y b c ; door z a c"
STATE = "state faces a b c ; walker p a"

ASKING = (
    "show", "counts", "reach p", "bands", "still", "states", "most a", "most b", "back",
    "connect faces b c a ; walker p a", "connect faces a b a ; walker p a",
)

# What is no command, with or without a keeper.
NO_COMMANDS = (
    "", " ", "  ", "\n", "hall", "state", "connect", "pass", "turn", "put", "remove", "reach", "most", "a", "x", "undo p",
    "show p", "counts a", "bands p", "still x", "states 5", "back p", "pass p", "pass p x y", "turn x y", "put p",
    "put p a b", "remove p a", "reach p a", "most a b", "Show", "SHOW", "shows", "sho", "hal rooms a", "keeper", "log", "pass_door p x",
    " show", "show ", "  show", "show  ", "pass  p x", "pass p  x", "pass p x ", " pass p x", "hall ", "hall  rooms a",
    "hall rooms  a", "hall rooms a ", " hall rooms a", "hall rooms a  ; door x a b", "hall rooms a b ;  door x a b",
    "state ", "state faces ", "connect faces ", "state  faces", "connect  faces a b c",
    "show\n", "\nshow", "pass p\nx", "pass\np x", "hall rooms a\ndoor x a b", "hall rooms a b\n", "hall\nrooms a", "hall rooms\na",
    "state faces a\nb c", "state faces a b c\nwalker p a", "connect faces a b c\nwalker p a", "\n\n", "undo\n",
    "pass P x", "pass p X", "pass 1 x", "pass p 2", "turn x1", "turn X", "put p A", "put P a", "remove p_q", "remove p,",
    "reach abcdefg", "most abcdefg", "turn abcdefg", "put abcdefg a", "most -", "most ;", "pass p ;", "pass ; x", "turn ;",
    "reach /", "show ; show", "turn x ; turn y", ";", "; show", " ; ", "remove " + "p" * 1990, "x" * 2000, "show " * 400,
)


def desk_of(hall=H, state=S):
    """Return a desk whose keeper has this hall and this state."""
    desk = Desk()
    desk.say("hall " + format_hall(hall).replace("\n", " ; "))
    desk.say("state " + format_state(state).replace("\n", " ; "))
    return desk


def told(desk):
    """Return all answers by which one sees whether something has changed."""
    return [say_or_error(desk, command) for command in ASKING] + [len(desk)]


def say_or_error(desk, command):
    try:
        return desk.say(command)
    except (ValueError, KeyError) as error:
        return (type(error), vars(error))


class DeskCase(Case):

    def says(self, desk, command, answer):
        found = desk.say(command)
        self.assertIs(type(found), str)
        self.assertEqual(found, answer)

    def stays(self, desk, error, values, command):
        """Check that the command raises this error and that nothing changes."""
        before = told(desk)
        self.raises(error, values, desk.say, command)
        self.assertEqual(told(desk), before)


class CommandsTest(DeskCase):

    def test_example(self):
        desk = Desk()
        answers = (desk.say("hall rooms a b ; door x a b"), desk.say("put p a"), desk.say("pass p x"), desk.say("show"))
        self.assertEqual(answers, ("1 doors", "in a", "in b", "faces b ; walker p b"))

    def test_hall(self):
        desk = Desk()
        self.says(desk, HALL, "3 doors")
        self.says(desk, "show", "faces a b a")
        self.says(desk, "hall rooms a", "0 doors")
        self.says(desk, "show", "faces")
        self.says(desk, "counts", "0")
        self.says(desk, "hall rooms b a ; door x b a ; door y a b", "2 doors")
        self.says(desk, "show", "faces b a")
        self.says(desk, "hall " + format_hall(wide_hall(8, 12)).replace("\n", " ; "), "12 doors")
        self.assertEqual(len(desk), 0)

    def test_hall_replaces_the_keeper(self):
        desk = desk_of()
        desk.say("pass p x")
        self.says(desk, HALL, "3 doors")
        self.says(desk, "show", "faces a b a")
        self.says(desk, "undo", "nothing")
        self.says(desk, "back", "here")
        self.assertEqual(len(desk), 0)

    def test_state(self):
        desk = Desk()
        desk.say(HALL)
        self.says(desk, STATE, "1 walkers")
        self.says(desk, "show", "faces a b c ; walker p a")
        self.says(desk, "state faces b c a", "0 walkers")
        self.says(desk, "show", "faces b c a")
        self.says(desk, "state faces a b a ; walker a c ; walker b c ; walker c a ; walker d a ; walker e b", "5 walkers")
        self.says(desk, "hall rooms a", "0 doors")
        self.says(desk, "state faces", "0 walkers")
        self.says(desk, "state faces ; walker p a", "1 walkers")

    def test_state_replaces_the_keeper(self):
        desk = desk_of()
        desk.say("pass p x")
        self.says(desk, STATE, "1 walkers")
        self.says(desk, "undo", "nothing")
        self.says(desk, "back", "here")
        self.says(desk, "show", "faces a b c ; walker p a")

    def test_pass(self):
        desk = desk_of()
        self.says(desk, "pass p x", "in b")
        self.says(desk, "pass p y", "in c")
        self.says(desk, "pass p z", "in a")
        self.says(desk, "show", "faces b c a ; walker p a")
        self.stays(desk, UnknownWalker, {"name": "q"}, "pass q w")
        self.stays(desk, UnknownDoor, {"name": "w"}, "pass p w")
        self.stays(desk, Blocked, {"index": 0}, "pass p x")

    def test_turn(self):
        desk = desk_of()
        self.says(desk, "turn z", "faces a")
        self.says(desk, "turn z", "faces c")
        self.says(desk, "turn x", "faces b")
        self.says(desk, "show", "faces b b c ; walker p a")
        self.stays(desk, UnknownDoor, {"name": "w"}, "turn w")

    def test_put_and_remove(self):
        desk = desk_of()
        self.says(desk, "put o c", "in c")
        self.says(desk, "show", "faces a b c ; walker o c ; walker p a")
        self.stays(desk, UnknownRoom, {"name": "d"}, "put p d")
        self.stays(desk, Mismatch, {"name": "p"}, "put p c")
        for name in "qrs":
            self.says(desk, f"put {name} b", "in b")
        self.stays(desk, Full, {"most": 5}, "put t a")
        self.stays(desk, Mismatch, {"name": "s"}, "put s a")
        self.says(desk, "remove o", "was in c")
        self.stays(desk, UnknownWalker, {"name": "o"}, "remove o")
        self.assertEqual(len(desk), 4)
        self.says(desk, "remove p", "was in a")

    def test_undo(self):
        desk = desk_of()
        self.says(desk, "undo", "nothing")
        desk.say("pass p x")
        desk.say("turn y")
        desk.say("put q a")
        desk.say("remove p")
        for wanted in (
            "faces b c c ; walker p b ; walker q a", "faces b c c ; walker p b", "faces b b c ; walker p b",
            "faces a b c ; walker p a",
        ):
            self.says(desk, "undo", "undone")
            self.says(desk, "show", wanted)
        self.says(desk, "undo", "nothing")
        self.says(desk, "show", "faces a b c ; walker p a")

    def test_counts(self):
        desk = desk_of()
        self.says(desk, "counts", "0 1 1")
        desk.say("put q a")
        desk.say("put r a")
        self.says(desk, "counts", "-2 1 1")

    def test_reach(self):
        desk = desk_of()
        self.says(desk, "reach p", "a b c")
        desk.say("turn x")
        self.says(desk, "reach p", "a")
        self.stays(desk, UnknownWalker, {"name": "q"}, "reach q")

    def test_bands(self):
        desk = desk_of()
        self.says(desk, "bands", "p")
        desk.say("put o c")
        self.says(desk, "bands", "o p")
        desk.say("hall rooms a b c ; door x a b")
        desk.say("state faces b ; walker o c ; walker p a ; walker q c")
        self.says(desk, "bands", "o q / p")
        desk.say("state faces a")
        self.says(desk, "bands", "none")

    def test_still(self):
        desk = desk_of()
        self.says(desk, "still", "none")
        desk.say("turn x")
        self.says(desk, "still", "x y z")
        desk.say("hall rooms a")
        self.says(desk, "still", "none")

    def test_states(self):
        desk = desk_of()
        self.says(desk, "states", "4")
        desk.say("remove p")
        self.says(desk, "states", "1")
        hall = (("a", "b"), tuple((name, "a", "b") for name in "abcdefghijkl"))
        desk = desk_of(hall, (("a", "b") * 6, tuple(zip("pqrst", "ababa"))))
        self.says(desk, "states", "24310")

    def test_most(self):
        desk = desk_of()
        self.says(desk, "most b", "1")
        desk.say("remove p")
        self.says(desk, "most b", "0")
        self.stays(desk, UnknownRoom, {"name": "d"}, "most d")
        self.stays(desk, UnknownRoom, {"name": "x"}, "most x")

    def test_connect(self):
        desk = desk_of()
        self.says(desk, "connect faces b c a ; walker p a", "yes")
        self.says(desk, "connect faces a b a ; walker p a", "no")
        self.says(desk, "connect faces a b c ; walker p a", "yes")
        self.says(desk, "show", "faces a b c ; walker p a")
        self.stays(desk, Mismatch, {"name": "p"}, "connect faces a b c")
        self.stays(desk, Mismatch, {"name": "o"}, "connect faces a b c ; walker o a ; walker p a")

    def test_back(self):
        desk = desk_of()
        self.says(desk, "back", "here")
        desk.say("pass p x")
        self.says(desk, "back", "p x")
        desk.say("pass p y")
        self.says(desk, "back", "p y , p x")
        desk.say("turn z")
        self.says(desk, "back", "here")
        desk.say("undo")
        self.says(desk, "back", "p y , p x")

    def test_show_can_be_said_again(self):
        desk = desk_of()
        desk.say("put q c")
        shown = desk.say("show")
        other = Desk()
        other.say(HALL)
        other.say("state " + shown)
        self.says(other, "show", shown)
        self.says(desk, "connect " + shown, "yes")

    def test_against_the_functions(self):
        dice = model.Dice(131)
        for _ in range(60):
            hall, state = dice.hall_and_state()
            desk = desk_of(hall, state)
            self.says(desk, "show", format_state(state).replace("\n", " ; "))
            self.says(desk, "counts", " ".join(map(str, counts(hall, state))))
            for walker, _ in state[1]:
                self.says(desk, f"reach {walker}", " ".join(reach(hall, state, walker)))
            parts = " / ".join(" ".join(walkers) for walkers, _ in bands(hall, state))
            self.says(desk, "bands", parts or "none")
            self.says(desk, "still", " ".join(still_doors(hall, state)) or "none")
            self.says(desk, "states", str(count_states(hall, state)))
            for room in hall[0]:
                self.says(desk, f"most {room}", str(most_in(hall, state, room)[0]))
            row = dice.walk(hall, state, 8)
            for walker, door in row:
                there = model.step(hall, state, (walker, door))
                self.says(desk, f"pass {walker} {door}", "in " + dict(there[1])[walker])
                text = format_state(state).replace("\n", " ; ")
                self.says(desk, "connect " + text, "yes")
                state = there
            self.says(desk, "back", " , ".join(" ".join(deed) for deed in row[::-1]) or "here")
            target = dice.state(hall, len(state[1]))
            wanted = "yes" if connect(hall, state, target)[0] == "row" else "no"
            self.says(desk, "connect " + format_state(target).replace("\n", " ; "), wanted)
            self.assertEqual(len(desk), len(state[1]))

    def test_hundreds_of_commands(self):
        desk = desk_of(wide_hall(8, 12), wide_state(wide_hall(8, 12), 5))
        keeper = Keeper(wide_hall(8, 12), wide_state(wide_hall(8, 12), 5))
        start = time.perf_counter()
        for n in range(300):
            door = wide_hall(8, 12)[1][n % 12][0]
            keeper.turn(door)
            desk.say("turn " + door)
            desk.say("states")
            self.says(desk, "show", format_state(keeper.state()).replace("\n", " ; "))
        self.assertLess(time.perf_counter() - start, 60)
        for _ in range(300):
            self.says(desk, "undo", "undone")
        self.says(desk, "undo", "nothing")


class TextsTest(DeskCase):

    def test_semicolon_as_the_first_or_the_last_word(self):
        desk = desk_of()
        for text in ("; rooms a", ";", "; ; rooms a", "; rooms a ; door x a b"):
            self.stays(desk, InvalidText, {"line": 0}, "hall " + text)
        self.stays(desk, InvalidText, {"line": 0}, "hall rooms a ;")
        self.stays(desk, InvalidText, {"line": 1}, "hall rooms a b ; door x a b ;")
        self.stays(desk, InvalidText, {"line": 1}, "hall rooms a b ; ;")
        self.stays(desk, InvalidText, {"line": 0}, "state faces a b c ;")
        self.stays(desk, InvalidText, {"line": 1}, "state faces a b c ; walker p a ;")
        self.stays(desk, InvalidText, {"line": 0}, "connect ; faces a b c ; walker p a")
        self.stays(desk, InvalidText, {"line": 1}, "connect faces a b c ; walker p a ;")

    def test_semicolons_one_behind_the_other(self):
        # Of "; ;" between two words only the first stands for a line feed; the second begins the next line.
        desk = desk_of()
        self.stays(desk, InvalidText, {"line": 1}, "hall rooms a b ; ; door x a b")
        self.stays(desk, InvalidText, {"line": 1}, "hall rooms a b ; ; ; door x a b")
        self.stays(desk, InvalidText, {"line": 1}, "state faces a b c ; ; walker p a")
        self.stays(desk, InvalidText, {"line": 1}, "connect faces a b c ; ; walker p a")
        self.stays(desk, InvalidText, {"line": 2}, "connect faces a b c ; walker p a ; ; walker q a")
        self.stays(desk, InvalidText, {"line": 0}, "hall ; ; rooms a")

    def test_semicolons_within_words(self):
        desk = desk_of()
        self.stays(desk, InvalidText, {"line": 0}, "hall rooms a; b")
        self.stays(desk, InvalidText, {"line": 0}, "hall rooms a ;b")
        self.stays(desk, InvalidText, {"line": 0}, "hall rooms a;door x a b")
        self.stays(desk, InvalidText, {"line": 0}, "hall rooms a ;; door x a b")
        self.stays(desk, InvalidText, {"line": 1}, "hall rooms a b ; door x; a b")
        self.stays(desk, InvalidText, {"line": 0}, "state faces a b c; walker p a")
        self.stays(desk, InvalidText, {"line": 0}, "connect faces a b c ;walker p a")

    def test_texts_that_are_no_hall(self):
        desk = desk_of()
        for line, text in (
            (0, "a"), (0, "room a"), (0, "rooms"), (0, "rooms a a"), (0, "rooms A"), (0, "rooms a b c d e f g h i"),
            (0, "Rooms a b"), (0, "hall rooms a"), (1, "rooms a b ; door x a"), (1, "rooms a b ; door x a a"),
            (1, "rooms a b ; door x a c"), (1, "rooms a b ; x a b"), (2, "rooms a b ; door x a b ; door x b a"),
            (1, "rooms a b ; walker p a"), (1, "rooms a b ; door x a b c"), (1, "rooms a ; rooms b"),
            (13, "rooms a b" + "".join(f" ; door {name} a b" for name in "abcdefghijklm")),
        ):
            self.stays(desk, InvalidText, {"line": line}, "hall " + text)
            empty = Desk()
            self.raises(InvalidText, {"line": line}, empty.say, "hall " + text)
            self.raises(InvalidCommand, {}, empty.say, "show")
            self.assertEqual(len(empty), 0)

    def test_texts_that_are_no_state(self):
        desk = desk_of()
        for line, text in (
            (0, "a"), (0, "faces"), (0, "faces a b"), (0, "faces a b c a"), (0, "faces c b c"), (0, "face a b c"),
            (0, "walker p a"), (1, "faces a b c ; walker p"), (1, "faces a b c ; walker p d"), (1, "faces a b c ; walker P a"),
            (2, "faces a b c ; walker p a ; walker p a"), (2, "faces a b c ; walker p a ; walker o a"),
            (1, "faces a b c ; p a"), (1, "faces a b c ; walker p a b"), (1, "faces a b c ; faces a b c"),
            (6, "faces a b c" + "".join(f" ; walker {name} a" for name in "pqrstu")),
        ):
            for word in ("state ", "connect "):
                self.stays(desk, InvalidText, {"line": line}, word + text)

    def test_texts_before_the_errors_of_the_functions(self):
        self.stays(desk_of(), InvalidText, {"line": 1}, "connect faces a b c ; walker q d")
        self.stays(desk_of(), Mismatch, {"name": "p"}, "connect faces a b c ; walker q c")

    def test_long_texts(self):
        names = ["abcde" + letter for letter in "abcdefghijkl"]
        hall = (tuple(names[:8]), tuple((name, names[n % 8], names[(n + 3) % 8]) for n, name in enumerate(names)))
        state = (tuple(door[2] for door in hall[1]), tuple((name, names[0]) for name in names[:5]))
        desk = desk_of(hall, state)
        self.says(desk, "show", format_state(state).replace("\n", " ; "))
        self.stays(desk, InvalidText, {"line": 0}, "state " + "a " * 996 + "a")
        self.stays(desk, InvalidText, {"line": 0}, "hall " + "; " * 996 + "a")


class InvalidCommandsTest(DeskCase):

    def test_commands_of_no_form(self):
        for command in NO_COMMANDS:
            empty = Desk()
            self.raises(InvalidCommand, {}, empty.say, command)
            self.assertEqual(len(empty), 0)
            self.stays(desk_of(), InvalidCommand, {}, command)

    def test_every_wrong_number_of_words(self):
        numbers = {
            "pass": 2, "turn": 1, "put": 2, "remove": 1, "undo": 0, "show": 0, "counts": 0, "reach": 1, "bands": 0, "still": 0,
            "states": 0, "most": 1, "back": 0,
        }
        for word, number in numbers.items():
            for words in itertools.chain(range(number), range(number + 1, 6)):
                self.stays(desk_of(), InvalidCommand, {}, " ".join([word] + ["a"] * words))
            for at in range(number):
                for wrong in ("A", "1", "a1", "abcdefg", ";", "-", "a;", "(a)"):
                    words = ["a"] * number
                    words[at] = wrong
                    self.stays(desk_of(), InvalidCommand, {}, " ".join([word, *words]))

    def test_no_keeper(self):
        desk = Desk()
        for command in (
            *ASKING, "undo", "pass p x", "turn x", "put p a", "remove p", "state faces", "state a", "connect a", "connect ;",
            "state faces a b c ; walker p a",
        ):
            self.raises(InvalidCommand, {}, desk.say, command)
            self.assertEqual(len(desk), 0)
        self.says(desk, "hall rooms a", "0 doors")
        self.says(desk, "put p a", "in a")

    def test_a_command_of_no_form_before_a_text(self):
        self.stays(desk_of(), InvalidCommand, {}, "hall roms a ")
        self.stays(desk_of(), InvalidCommand, {}, "hall roms\na")
        self.stays(desk_of(), InvalidCommand, {}, "connect  x")

    def test_a_command_of_no_form_before_other_errors(self):
        self.stays(desk_of(), InvalidCommand, {}, "pass Q w")
        self.stays(desk_of(), InvalidCommand, {}, "put P d")
        self.stays(desk_of(), InvalidCommand, {}, "most D")


class DesksTest(DeskCase):

    def test_len(self):
        desk = Desk()
        self.assertEqual(len(desk), 0)
        desk.say(HALL)
        self.assertEqual(len(desk), 0)
        desk.say("put p a")
        desk.say("put q a")
        self.assertEqual(len(desk), 2)
        desk.say("undo")
        self.assertEqual(len(desk), 1)
        desk.say("hall rooms a")
        self.assertEqual(len(desk), 0)

    def test_two_desks_side_by_side(self):
        one, other = desk_of(), desk_of()
        one.say("pass p x")
        other.say("put q b")
        self.says(one, "show", "faces b b c ; walker p b")
        self.says(other, "show", "faces a b c ; walker p a ; walker q b")
        self.says(one, "undo", "undone")
        self.says(one, "undo", "nothing")
        self.says(other, "undo", "undone")
        third = Desk()
        self.raises(InvalidCommand, {}, third.say, "show")
        self.says(other, "show", "faces a b c ; walker p a")

    def test_asking_again_gives_an_equal_answer(self):
        desk = desk_of()
        first = told(desk)
        for command in ASKING:
            desk.say(command)
            self.assertEqual(told(desk), first)

    def test_by_name(self):
        desk = Desk()
        self.assertEqual(desk.say(command=HALL), "3 doors")
        self.assertEqual(desk.say(command="show"), "faces a b a")


if __name__ == "__main__":
    unittest.main()
