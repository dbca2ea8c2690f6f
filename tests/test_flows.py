import random
import unittest

from tests.repairs import BOOK, any_manual, manual_of, plain_flow
from tests.samples import EXAMPLE, TURNED
from tinkerhall.flows import flow

DONE, QUIT, LEAVE = ("done",), ("quit",), ("leave",)


class FlowTest(unittest.TestCase):
    def test_the_example(self):
        self.assertEqual(flow(BOOK), (
            ("look", "one", "g", 1), ("if", (0, 2), 2, 7), ("swap", "g", 3), ("look", "two", "c", 4), ("if", (1,), 5, 6),
            ("done",), ("back", "g", 8), ("say", "c", 8), ("quit",)))

    def test_what_has_no_step(self):
        self.assertEqual(flow(manual_of()), (QUIT,))
        self.assertEqual(flow(manual_of(("repeat", 4, ()))), (QUIT,))
        self.assertEqual(flow(manual_of(("call", "sub"), ("say", "g"), ("call", "sub"), sub=())), (("say", "g", 1), QUIT))
        self.assertEqual(flow(manual_of(("repeat", 3, (LEAVE, DONE)), ("say", "g"))), (("say", "g", 1), QUIT))
        self.assertEqual(flow(manual_of(("if", (1,), (), ()))), (("if", (1,), 1, 1), QUIT))
        self.assertEqual(flow(manual_of(("if", (1,), (("repeat", 2, ()),), (("call", "sub"),)), DONE, sub=())),
                         (("if", (1,), 1, 1), DONE, QUIT))

    def test_repeat_and_leave(self):
        body = (("if", (1,), (LEAVE,), (("say", "g"),)),)
        self.assertEqual(flow(manual_of(("repeat", 2, body), DONE)), (
            ("if", (1,), 4, 1), ("say", "g", 2), ("if", (1,), 4, 3), ("say", "g", 4), DONE, QUIT))
        # What comes next of the inner leave is the next copy of the outer body.
        inner = ("repeat", 2, (("if", (1,), (LEAVE,), ()),))
        self.assertEqual(flow(manual_of(("repeat", 2, (inner, ("if", (0,), (LEAVE, DONE), ()))), ("say", "g"))), (
            ("if", (1,), 2, 1), ("if", (1,), 2, 2), ("if", (0,), 6, 3),
            ("if", (1,), 5, 4), ("if", (1,), 5, 5), ("if", (0,), 6, 6), ("say", "g", 7), QUIT))
        # Behind the if comes a leave, so behind its bodies comes what is behind the repeat.
        self.assertEqual(flow(manual_of(("repeat", 2, (("if", (1,), (("say", "g"),), ()), LEAVE, DONE)))), (
            ("if", (1,), 1, 4), ("say", "g", 4), ("if", (1,), 3, 4), ("say", "g", 4), QUIT))

    def test_leave_in_a_repeat_in_a_repeat(self):
        body = ("repeat", 2, (("repeat", 2, (("say", "g"), LEAVE, DONE)), ("say", "c"), LEAVE))
        self.assertEqual(flow(manual_of(body, DONE)), (
            ("say", "g", 2), ("say", "g", 2), ("say", "c", 6), ("say", "g", 5), ("say", "g", 5), ("say", "c", 6), DONE,
            QUIT))

    def test_leave_at_the_beginning_and_behind_what_is_empty(self):
        self.assertEqual(flow(manual_of(("repeat", 3, (LEAVE,)), ("say", "g"))), (("say", "g", 1), QUIT))
        self.assertEqual(flow(manual_of(("say", "c"), ("repeat", 3, (LEAVE, ("say", "g"))))), (("say", "c", 1), QUIT))
        # Behind an empty repeat, and behind an empty chapter that is called; no run comes to the second copy.
        for empty in (("repeat", 4, ()), ("call", "sub"), ("repeat", 2, (("call", "sub"), ("repeat", 2, ())))):
            self.assertEqual(flow(manual_of(("repeat", 2, (("say", "g"), empty, LEAVE, DONE)), ("say", "c"), sub=())),
                             (("say", "g", 2), ("say", "g", 2), ("say", "c", 3), QUIT))
        # In both bodies of an if, with more behind it that only the other body comes to.
        self.assertEqual(flow(manual_of(("repeat", 2, (("if", (0,), (LEAVE, DONE), (("say", "g"),)), ("say", "c"))),
                                        DONE)), (
            ("if", (0,), 6, 1), ("say", "g", 2), ("say", "c", 3), ("if", (0,), 6, 4), ("say", "g", 5), ("say", "c", 6),
            DONE,
            QUIT))
        self.assertEqual(flow(manual_of(("repeat", 2, (("if", (0,), (LEAVE,), (LEAVE,)), ("say", "c"))))), (
            ("if", (0,), 4, 4), ("say", "c", 2), ("if", (0,), 4, 4), ("say", "c", 4), QUIT))

    def test_what_stands_behind_leave_done_and_quit(self):
        body = (("say", "g"), LEAVE, ("look", "one", "g"), ("repeat", 2, (DONE,)))
        self.assertEqual(flow(manual_of(("repeat", 2, body), ("say", "c"))),
                         (("say", "g", 2), ("say", "g", 2), ("say", "c", 3), QUIT))
        # Behind done and quit all is written out, though no run comes there.
        self.assertEqual(flow(manual_of(("repeat", 2, (DONE, ("say", "g"))), QUIT, ("swap", "g"))),
                         (DONE, ("say", "g", 2), DONE, ("say", "g", 4), QUIT, ("swap", "g", 6), QUIT))

    def test_chapters_called_twice_and_one_in_another(self):
        low = (("if", (1,), (("say", "g"),), ()),)
        self.assertEqual(flow(manual_of(("call", "sub"), ("call", "low"), DONE,
                                        sub=(("call", "low"), ("call", "empty")), low=low,
                                        empty=())), (
            ("if", (1,), 1, 2), ("say", "g", 2), ("if", (1,), 3, 4), ("say", "g", 4), DONE, QUIT))

    def test_call(self):
        self.assertEqual(flow(manual_of(("repeat", 2, (("call", "sub"),)),
                                        sub=(("if", (1,), (QUIT,), ()), ("say", "g")))), (
            ("if", (1,), 1, 2), QUIT, ("say", "g", 3), ("if", (1,), 4, 5), QUIT, ("say", "g", 6), QUIT))

    def test_what_stands_behind_an_end_is_written_out(self):
        self.assertEqual(flow(manual_of(DONE, ("say", "g"), QUIT)), (DONE, ("say", "g", 2), QUIT, QUIT))

    def test_deep_bodies(self):
        body = (("say", "g"),)
        for _ in range(149):
            body = (("repeat", 1, body),)
        self.assertEqual(flow(manual_of(*body)), (("say", "g", 1), QUIT))
        body = (("say", "g"),)
        for _ in range(149):
            body = (("if", (1,), body, ()),)
        self.assertEqual(flow(manual_of(*body))[148:], (("if", (1,), 149, 150), ("say", "g", 150), QUIT))

    def test_as_told_for_many_manuals(self):
        chance = random.Random(112)
        long = 0
        for _ in range(600):
            manual = any_manual(chance, chance.choice((EXAMPLE, TURNED)), chance.choice((1, 2, 3, 4)))
            steps = flow(manual)
            self.assertEqual(steps, plain_flow(manual))
            for at, step in enumerate(steps):
                many = {"if": 2, "done": 0, "quit": 0}.get(step[0], 1)
                self.assertTrue(all(at < number < len(steps) for number in step[len(step) - many:]))
            long += len(steps) > 20
        self.assertGreater(long, 50)
