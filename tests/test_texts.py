"""Stage 2: texts of halls and states."""

import unittest

from tests.samples import H, LETTERS, NAMES, NO_NAMES, S, Case, many_halls, wide_hall, wide_state
from turndoors.errors import InvalidText
from turndoors.texts import format_hall, format_state, parse_hall, parse_state

EMPTY = (("a",), ())

# With a space or a line feed in it, a wrong name would be two words or two lines, which other tests look at.
ONE_WORD_NO_NAMES = [name for name in NO_NAMES if " " not in name and "\n" not in name]


class FormatHallTest(Case):

    def test_example(self):
        self.gives("rooms a b\ndoor x a b", format_hall, (("a", "b"), (("x", "a", "b"),)))

    def test_order_of_the_hall(self):
        hall = (("c", "a", "b"), (("z", "b", "a"), ("y", "a", "c")))
        self.gives("rooms c a b\ndoor z b a\ndoor y a c", format_hall, hall)

    def test_no_doors(self):
        self.gives("rooms a", format_hall, EMPTY)

    def test_by_name(self):
        self.assertEqual(format_hall(hall=EMPTY), "rooms a")


class ParseHallTest(Case):

    def refuses(self, line, text):
        self.raises(InvalidText, {"line": line}, parse_hall, text)
        self.raises(InvalidText, {"line": line}, parse_hall, text)

    def test_there_and_back(self):
        for hall in many_halls():
            self.gives(hall, parse_hall, format_hall(hall))
            self.assertEqual(format_hall(parse_hall(format_hall(hall))), format_hall(hall))

    def test_words_as_names(self):
        hall = (("rooms", "door"), (("door", "rooms", "door"), ("rooms", "door", "rooms")))
        self.gives(hall, parse_hall, "rooms rooms door\ndoor door rooms door\ndoor rooms door rooms")
        for name in NAMES:
            self.gives(((name, "n"), ((name, "n", name),)), parse_hall, f"rooms {name} n\ndoor {name} n {name}")

    def test_example(self):
        self.refuses(1, "rooms a b\ndoor x a c")

    def test_empty_text_and_empty_lines(self):
        self.refuses(0, "")
        self.refuses(0, "\n")
        self.refuses(0, "\nrooms a")
        self.refuses(1, "rooms a\n")
        self.refuses(2, "rooms a b\ndoor x a b\n")
        self.refuses(1, "rooms a b\n\ndoor x a b")

    def test_first_word_of_the_first_line(self):
        for text in ("room a", "Rooms a", "roomss a", "a", "a rooms", "faces a", "door x a b", "rooms, a"):
            self.refuses(0, text)

    def test_spaces_of_the_first_line(self):
        for text in (" rooms a", "rooms a ", "rooms  a", "rooms a  b", "rooms ", " ", "rooms\ta"):
            self.refuses(0, text)
            self.refuses(0, text + "\ndoor x a b")

    def test_rooms(self):
        self.refuses(0, "rooms")
        self.refuses(0, "rooms\na")
        self.refuses(0, "rooms a a")
        self.refuses(0, "rooms b a c a")
        for name in ONE_WORD_NO_NAMES:
            self.refuses(0, "rooms " + name)
            self.refuses(0, "rooms a " + name)
            self.refuses(0, "rooms " + name + " a")

    def test_numbers_of_rooms(self):
        self.gives((tuple(LETTERS[:8]), ()), parse_hall, "rooms " + " ".join(LETTERS[:8]))
        self.refuses(0, "rooms " + " ".join(LETTERS[:9]))
        self.refuses(0, "rooms " + " ".join(LETTERS))

    def test_first_word_of_a_door_line(self):
        for word in ("doors", "Door", "", "rooms", "walker", "x"):
            self.refuses(1, "rooms a b\n" + word + " x a b")
            self.refuses(2, "rooms a b\ndoor y a b\n" + word + " x a b")

    def test_numbers_of_words_of_a_door_line(self):
        for line in ("door", "door x", "door x a", "x a b", "door x a b a", "door x a b door", "rooms a b"):
            self.refuses(1, "rooms a b\n" + line)

    def test_spaces_of_a_door_line(self):
        for line in (
            " door x a b", "door x a b ", "door  x a b", "door x  a b", "door x a  b", " ", "door x a ", "door x  b",
            "door  a b", "door x a b\t",
        ):
            self.refuses(1, "rooms a b\n" + line)
            self.refuses(1, "rooms a b\n" + line + "\ndoor y a b")

    def test_door_names(self):
        for name in ONE_WORD_NO_NAMES:
            self.refuses(1, "rooms a b\ndoor " + name + " a b")

    def test_repeated_door_names(self):
        self.refuses(2, "rooms a b\ndoor x a b\ndoor x a b")
        self.refuses(3, "rooms a b c\ndoor x a b\ndoor y a b\ndoor x b c\n")

    def test_ends(self):
        for ends in ("a a", "b b", "a c", "c a", "c c", "x a", "a A", "a ab", "a rooms"):
            self.refuses(1, "rooms a b\ndoor x " + ends)
            self.refuses(2, "rooms a b\ndoor w b a\ndoor x " + ends + "\ndoor")

    def test_numbers_of_doors(self):
        full = format_hall(wide_hall(2, 12))
        self.gives(wide_hall(2, 12), parse_hall, full)
        self.refuses(13, full + "\ndoor zd a b")
        self.refuses(13, full + "\n")
        self.refuses(13, full + "\ndoor zd a b\ndoor zd a a")

    def test_first_line_that_is_not_allowed(self):
        self.refuses(0, "rooms a a\ndoor x a a")
        self.refuses(1, "rooms a b\ndoor x a a\ndoor x a a")
        self.refuses(2, "rooms a b\ndoor x a b\ndoor X a b\ndoor")
        self.refuses(3, format_hall(wide_hall(4, 2)) + "\ndoor x a e\n" + "door\n" * 12)

    def test_by_name(self):
        self.assertEqual(parse_hall(text="rooms a"), EMPTY)


class FormatStateTest(Case):

    def test_example(self):
        self.gives("faces a b c\nwalker p a", format_state, S)

    def test_several_walkers(self):
        state = (("b", "a"), (("a", "c"), ("b", "a"), ("ba", "a")))
        self.gives("faces b a\nwalker a c\nwalker b a\nwalker ba a", format_state, state)

    def test_no_doors_and_no_walkers(self):
        self.gives("faces", format_state, ((), ()))
        self.gives("faces\nwalker p a", format_state, ((), (("p", "a"),)))
        self.gives("faces a", format_state, (("a",), ()))

    def test_by_name(self):
        self.assertEqual(format_state(state=((), ())), "faces")


class ParseStateTest(Case):

    def refuses(self, line, hall, text):
        self.raises(InvalidText, {"line": line}, parse_state, hall, text)
        self.raises(InvalidText, {"line": line}, parse_state, hall, text)

    def test_there_and_back(self):
        for hall in many_halls():
            for walkers in range(6):
                state = wide_state(hall, walkers)
                self.gives(state, parse_state, hall, format_state(state))
        self.gives((("b", "c", "a"), ()), parse_state, H, "faces b c a")

    def test_words_as_names(self):
        hall = (("faces", "walker"), (("x", "faces", "walker"),))
        state = (("walker",), (("faces", "faces"), ("walker", "walker")))
        self.gives(state, parse_state, hall, "faces walker\nwalker faces faces\nwalker walker walker")
        for name in NAMES:
            self.gives(((), ((name, "a"),)), parse_state, EMPTY, f"faces\nwalker {name} a")

    def test_example(self):
        self.refuses(0, H, "faces a b")

    def test_empty_text_and_empty_lines(self):
        for hall in (H, EMPTY):
            self.refuses(0, hall, "")
            self.refuses(0, hall, "\n")
        self.refuses(0, EMPTY, "\nfaces")
        self.refuses(1, EMPTY, "faces\n")
        self.refuses(1, H, "faces a b c\n")
        self.refuses(1, H, "faces a b c\n\nwalker p a")
        self.refuses(2, H, "faces a b c\nwalker p a\n")

    def test_first_word_of_the_first_line(self):
        for word in ("face", "Faces", "facess", "rooms", "walker", "", "a"):
            self.refuses(0, H, word + " a b c")
            self.refuses(0, EMPTY, word)
        self.refuses(0, H, "a b c")

    def test_spaces_of_the_first_line(self):
        for text in (" faces a b c", "faces a b c ", "faces  a b c", "faces a  b c", "faces a b  c", "faces a b ", " "):
            self.refuses(0, H, text)
            self.refuses(0, H, text + "\nwalker p a")
        self.refuses(0, EMPTY, "faces ")
        self.refuses(0, EMPTY, " faces")

    def test_faces(self):
        for faces in ("", " a", " a b", " a b c c", " a b c a", " c b c", " a a c", " a b b", " d b c", " A b c", " x y z"):
            self.refuses(0, H, "faces" + faces)
            self.refuses(0, H, "faces" + faces + "\nwalker p a")
        self.refuses(0, EMPTY, "faces a")
        self.refuses(0, H, "faces a b\nc")

    def test_first_word_of_a_walker_line(self):
        for word in ("walkers", "Walker", "", "faces", "door", "p"):
            self.refuses(1, H, "faces a b c\n" + word + " p a")
            self.refuses(2, H, "faces a b c\nwalker o a\n" + word + " p a")

    def test_numbers_of_words_of_a_walker_line(self):
        for line in ("walker", "walker p", "p a", "walker p a a", "walker p a walker", "faces a b c"):
            self.refuses(1, H, "faces a b c\n" + line)

    def test_spaces_of_a_walker_line(self):
        for line in (" walker p a", "walker p a ", "walker  p a", "walker p  a", "walker  a", "walker p ", " ", "walker p a\t"):
            self.refuses(1, H, "faces a b c\n" + line)
            self.refuses(1, H, "faces a b c\n" + line + "\nwalker q a")

    def test_walkers(self):
        for name in ONE_WORD_NO_NAMES:
            self.refuses(1, H, "faces a b c\nwalker " + name + " a")
            self.refuses(2, H, "faces a b c\nwalker a a\nwalker " + name + " a")

    def test_walkers_ascend(self):
        for one, other in (("p", "p"), ("q", "p"), ("b", "aa"), ("pa", "p")):
            self.refuses(2, H, f"faces a b c\nwalker {one} a\nwalker {other} b")
        self.refuses(3, H, "faces a b c\nwalker o a\nwalker q a\nwalker p b")
        self.refuses(3, H, "faces a b c\nwalker p a\nwalker q a\nwalker p b")

    def test_rooms(self):
        for room in ("d", "x", "p", "A", "ab", "walker"):
            self.refuses(1, H, "faces a b c\nwalker p " + room)
            self.refuses(2, H, "faces a b c\nwalker p a\nwalker q " + room + "\nwalker")

    def test_numbers_of_walkers(self):
        full = "faces a b c" + "".join(f"\nwalker {name} a" for name in "opqrs")
        self.gives((("a", "b", "c"), tuple((name, "a") for name in "opqrs")), parse_state, H, full)
        self.refuses(6, H, full + "\nwalker t a")
        self.refuses(6, H, full + "\n")
        self.refuses(6, H, full + "\nwalker t a\nwalker a d")

    def test_first_line_that_is_not_allowed(self):
        self.refuses(0, H, "faces a b b\nwalker P d")
        self.refuses(1, H, "faces a b c\nwalker P a\nwalker p d")
        self.refuses(2, H, "faces a b c\nwalker p a\nwalker p a\nwalker q d")

    def test_by_name(self):
        self.assertEqual(parse_state(text="faces", hall=EMPTY), ((), ()))


if __name__ == "__main__":
    unittest.main()
