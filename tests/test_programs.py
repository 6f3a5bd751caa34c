import unittest

from fullbelts.errors import BadProgram
from fullbelts.programs import Program
from samples import FORMS_STEPS, S_STEPS, check_unchanged, forms, grown_ring, is_name, odd_things, raised, s

END = ("end",)


def part(steps):
    """The part of the error, or None if this is a program."""
    error = raised(Program, steps)
    if error is None:
        return None
    assert type(error) is BadProgram, error
    return error.part


class Right(unittest.TestCase):
    def test_steps(self):
        self.assertEqual(s().steps, S_STEPS)
        self.assertEqual(forms().steps, FORMS_STEPS)
        self.assertIs(type(s().steps), tuple)

    def test_one_place(self):
        for step in (END, ("go", 0), ("make", "x", (), 0), ("tell", "x", 0), ("test", "x", (0, 0))):
            self.assertEqual(Program((step,)).steps, (step,))

    def test_forty_places(self):
        steps = tuple([("go", 39)] * 39) + (END,)
        self.assertEqual(Program(steps).steps, steps)

    def test_names_of_one_and_eight_letters(self):
        for name in ("a", "z", "abcdefgh", "zzzzzzzz", "end", "make"):
            self.assertIsNone(part((("make", name, (), 1), ("tell", name, 2), END)))

    def test_no_to_two_reads(self):
        for reads in ((), ("x",), ("y",), ("x", "x"), ("x", "z")):
            self.assertIsNone(part((("make", "x", reads, 0),)))

    def test_two_and_three_goals(self):
        for places in ((0, 0), (0, 1), (1, 1, 1), (2, 1, 0)):
            self.assertIsNone(part((("test", "x", places), END, END)))

    def test_faults_and_places_that_are_not_reached(self):
        self.assertIsNone(part((("tell", "x", 0), ("make", "y", ("z",), 1))))

    def test_twelve_names(self):
        words = "abcdefghijkl"
        made = tuple([("make", word, (), 0) for word in words])
        told = tuple([("tell", word, 0) for word in words])
        tested = tuple([("test", word, (0, 1)) for word in words])
        read = tuple([("make", words[at], (words[at + 1], words[at + 2]), 0) for at in range(0, 10)])
        for steps in (made, told, tested, read, made + told + tested):
            self.assertIsNone(part(steps))


class Wrong(unittest.TestCase):
    def test_steps_that_are_no_tuple_of_1_to_40_things(self):
        for thing in ((), [], [END], list(S_STEPS), {0: END}, "end", END[0], (END,) * 41, (1,) * 41, ("go", 0) * 21):
            self.assertEqual(part(thing), "steps")

    def test_any_thing_as_steps(self):
        for thing in odd_things():
            told = part(thing)
            if isinstance(thing, tuple) and 1 <= len(thing) <= 40:
                self.assertIs(type(told), int)
                self.assertEqual(told, 0)
            else:
                self.assertEqual(told, "steps")

    def test_any_thing_as_a_step(self):
        for thing in odd_things():
            self.assertEqual(part((thing,)), 0)
            self.assertEqual(part((END, ("go", 0), thing, thing)), 2)

    def test_any_thing_within_a_step(self):
        right = [("make", "x", ("y", "x"), 1), ("tell", "x", 1), ("test", "x", (0, 1, 0)), ("go", 1), END]
        for step in right:
            for at in range(len(step)):
                for thing in odd_things():
                    changed = step[:at] + (thing,) + step[at + 1:]
                    if not self.fits(step[0], at, thing):
                        self.assertEqual(part((END, changed)), 1, changed)
                    else:
                        self.assertIsNone(part((END, changed)), changed)

    def fits(self, kind, at, thing):
        """Whether a thing that odd_things tells fits there, of two places."""
        if at == 0:
            return False if kind != "make" else type(thing) is str and thing == "make"
        if at == 1 and kind != "go":
            return is_name(thing)
        if kind == "make" and at == 2:
            return type(thing) is tuple and len(thing) <= 2 and all(is_name(name) for name in thing)
        if kind == "test":
            return type(thing) is tuple and thing in ((0, 0), (0, 1), (0, 0, 0)) and True not in [
                type(place) is bool for place in thing]
        return type(thing) is int and thing in (0, 1)

    def test_any_thing_among_the_reads(self):
        for thing in odd_things():
            if not is_name(thing):
                self.assertEqual(part((("make", "x", (thing,), 0),)), 0)
                self.assertEqual(part((("make", "x", ("x", thing), 0),)), 0)
                self.assertEqual(part((("make", "x", (thing, "x"), 0),)), 0)

    def test_any_thing_among_the_goals_of_a_test(self):
        for thing in odd_things():
            if type(thing) is not int or thing not in (0, 1):
                for places in ((thing, 0), (0, thing), (0, 0, thing), (0, thing, 0), (thing, 1, 1)):
                    self.assertEqual(part((END, ("test", "x", places))), 1)

    def test_steps_of_wrong_lengths(self):
        wrong = [
            (), ("make",), ("make", "x"), ("make", "x", ()), ("make", "x", 0), ("make", "x", (), 0, 0),
            ("tell",), ("tell", "x"), ("tell", "x", 0, 0), ("tell", 0), ("test", "x"), ("test", "x", (0, 0), 0),
            ("test", "x", 0, 0), ("go",), ("go", 0, 0), ("go", (0,)), ("end", 0), ("end", ()), ("End",), ("halt",),
            ("", 0), ("tell", "x", (0,)), ("go", "x", 0), ("test", (0, 0)), ("make", "x", "y", 0)]
        for step in wrong:
            self.assertEqual(part((step,)), 0, step)

    def test_lists_where_tuples_are_asked(self):
        for step in (["end"], ["go", 0], ("make", "x", [], 0), ("make", "x", ["x"], 0), ("test", "x", [0, 0])):
            self.assertEqual(part((step,)), 0, step)

    def test_names(self):
        for name in ("", "abcdefghi", "A", "aB", "a1", "1", "a ", " a", "a_", "a-b", "a\n", "`", "{", "|", b"a", None):
            for step in (("make", name, (), 0), ("make", "x", (name,), 0), ("tell", name, 0), ("test", name, (0, 0))):
                self.assertEqual(part((step,)), 0, step)

    def test_three_reads(self):
        self.assertEqual(part((("make", "x", ("x", "x", "x"), 0),)), 0)

    def test_one_and_four_goals(self):
        for places in ((), (0,), (0, 0, 0, 0)):
            self.assertEqual(part((("test", "x", places),)), 0)

    def test_places_out_of_range(self):
        for many in (1, 2, 5, 40):
            for place in (many, many + 1, -1, -many, 10 ** 59, -10 ** 59, True, False):
                for step in (("make", "x", (), place), ("tell", "x", place), ("test", "x", (0, place)),
                             ("test", "x", (place, 0, 0)), ("go", place)):
                    self.assertEqual(part((END,) * (many - 1) + (step,)), many - 1, step)

    def test_the_first_thing_that_is_no_step(self):
        self.assertEqual(part((END, 0, END, 1)), 1)
        self.assertEqual(part((END,) * 39 + (0,)), 39)
        self.assertIs(type(part((END, 0))), int)

    def test_thirteen_names(self):
        words = "abcdefghijklm"
        made = tuple([("make", word, (), 0) for word in words])
        told = tuple([("tell", word, 0) for word in words])
        tested = tuple([("test", word, (0, 0)) for word in words])
        read = tuple([("make", words[at], (words[at + 1], words[at + 2]), 0) for at in range(0, 11)])
        for steps in (made, told, tested, read, made[:6] + told[6:], told[:12] + (("make", "a", ("b", "m"), 0),)):
            self.assertEqual(part(steps), "names")

    def test_the_order_of_the_parts(self):
        told = tuple([("tell", word, 0) for word in "abcdefghijklm"])
        self.assertEqual(part(told + (0,)), 13)
        self.assertEqual(part((0,) + told), 0)
        self.assertEqual(part(told * 4), "steps")
        self.assertEqual(part((0,) * 41), "steps")

    def test_nothing_is_changed(self):
        check_unchanged(self, lambda thing: raised(Program, thing))
        check_unchanged(self, lambda thing: raised(Program, (thing, thing)))
        steps = [END, ["go", 0]]
        raised(Program, steps)
        self.assertEqual(steps, [END, ["go", 0]])


class Equality(unittest.TestCase):
    def test_equal_just_if_the_steps_are(self):
        self.assertTrue(s() == s())
        self.assertFalse(s() != s())
        self.assertFalse(s() == forms())
        self.assertTrue(s() != forms())
        base = (("make", "x", ("x", "y"), 1), ("test", "x", (0, 1)))
        for other in ((("make", "y", ("x", "y"), 1), base[1]), (("make", "x", ("y", "x"), 1), base[1]),
                      (("make", "x", ("x",), 1), base[1]), (("make", "x", ("x", "y"), 0), base[1]),
                      (base[0], ("test", "x", (1, 0))), (base[0], ("test", "y", (0, 1))), base + (END,), base[:1] + (END,)):
            self.assertFalse(Program(base) == Program(other))

    def test_a_place_that_is_not_reached_counts(self):
        self.assertFalse(Program((END, END)) == Program((END, ("go", 0))))

    def test_equal_to_no_thing_of_another_class(self):
        program = s()
        for thing in [program.steps, *odd_things()]:
            if type(thing) is not Program:
                self.assertFalse(program == thing)
                self.assertFalse(thing == program)
                self.assertTrue(program != thing)

    def test_a_program_of_another_class(self):
        class Likeness:
            steps = S_STEPS
        self.assertFalse(s() == Likeness())

    def test_more_than_forty_places(self):
        self.assertTrue(grown_ring(self, 50) == grown_ring(self, 50))
        self.assertFalse(grown_ring(self, 50) == grown_ring(self, 51))


if __name__ == "__main__":
    unittest.main()
