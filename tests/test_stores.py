"""Promise 20: stores, their pages, and how they come up again."""

from twinbegun.logs import KeptLog
from twinbegun.programs import Program
from twinbegun.stores import Store
from tests.checks import ODD, Checks, beyond, cash, chance, lights, some_event
from tests.models import PlainStore

MOST = 10 ** 12
A, B, C, D, E = [("a", number) for number in range(1, 6)]


def idle():
    """A program with one sign."""
    return Program.idle("a")


def half_synced():
    """A store with a synced page, a page that is not full, and two writes that are pending."""
    store = Store(cash(), size=2)
    store.put(("pay", 1), ("pay", 2), ("pay", 3))
    store.sync()
    store.put(("pay", 4), ("reset", 5))
    return store


def told(store):
    """All that a store tells."""
    return (store.size, store.restarts, store.events(), store.pending(), store.pages(), len(store), repr(store))


class Pages(Checks):
    def check(self, store, plain):
        """The store is as the plain one."""
        many = len(plain.events)
        wanted = (plain.size, plain.restarts, plain.events, plain.pending, plain.pages(), many, f"Store({many} events)")
        self.assert_same(told(store), wanted)

    def test_the_empty_store(self):
        self.assert_same(told(Store(idle())), (4, 0, [], [], [], 0, "Store(0 events)"))
        store = Store(idle(), size=1)
        store.sync()
        self.assert_same(told(store), (1, 0, [], [], [], 0, "Store(0 events)"))
        store.crash()
        self.assert_same(told(store), (1, 1, [], [], [], 0, "Store(0 events)"))
        store.put()
        self.assert_same(told(store), (1, 1, [], [], [], 0, "Store(0 events)"))

    def test_writes_have_all_events_of_their_page(self):
        store = Store(idle(), size=2)
        self.assertIs(store.put(A), None)
        self.assert_same(store.pending(), [(0, (A,))])
        store.put(B, C)
        self.assert_same(store.pending(), [(0, (A,)), (0, (A, B)), (1, (C,))])
        self.assert_same((store.events(), store.pages(), len(store)), ([A, B, C], [], 3))
        self.assertIs(store.sync(), None)
        self.assert_same((store.pending(), store.pages()), ([], [(A, B), (C,)]))
        store.put(D, E)
        self.assert_same((store.pending(), store.pages()), ([(1, (C, D)), (2, (E,))], [(A, B), (C,)]))
        store.sync()
        self.assert_same((store.pending(), store.pages()), ([], [(A, B), (C, D), (E,)]))

    def test_a_crash_that_keeps_nothing(self):
        store = Store(idle(), size=2)
        store.put(A, B, C)
        self.assertIs(store.crash(), None)
        self.assert_same(told(store), (2, 1, [], [], [], 0, "Store(0 events)"))
        store.put(A, B, C)
        store.sync()
        store.put(D, E)
        store.crash()
        self.assert_same(told(store), (2, 2, [A, B, C], [], [(A, B), (C,)], 3, "Store(3 events)"))

    def test_a_crash_that_keeps_a_later_page_and_not_an_earlier_one(self):
        store = Store(idle(), size=2)
        store.put(A, B, C, D, E)
        store.crash(2, 3, 4)
        self.assert_same(told(store), (2, 1, [], [], [], 0, "Store(0 events)"))
        store.put(A, B, C, D, E)
        store.crash(0, 2, 3, 4)
        self.assert_same(told(store), (2, 2, [A], [], [(A,)], 1, "Store(1 events)"))
        store.put(B, C, D, E)
        store.crash(0, 3)
        self.assert_same(told(store), (2, 3, [A, B], [], [(A, B)], 2, "Store(2 events)"))
        store.put(C, D, E)
        store.crash(0, 2)
        self.assert_same(told(store), (2, 4, [A, B, C], [], [(A, B), (C,)], 3, "Store(3 events)"))

    def test_pages_that_are_gone_do_not_come_again(self):
        store = Store(idle(), size=1)
        store.put(A, B, C)
        store.crash(1, 2)
        self.assert_same((store.events(), store.pages()), ([], []))
        store.put(D)
        store.crash(0)
        self.assert_same((store.events(), store.pages()), ([D], [(D,)]))
        store.put(E)
        store.sync()
        store.crash()
        self.assert_same((store.events(), store.pages()), ([D, E], [(D,), (E,)]))

    def test_a_later_write_of_a_page_replaces_an_earlier_one(self):
        for kept, events in [((0, 1), [A, B]), ((1, 0), [A, B]), ((0,), [A]), ((1,), [A, B]), ((2, 0), [A, B, C]),
                             ((0, 0), [A]), ((1, 1, 0), [A, B]), ((2, 1, 0), [A, B, C])]:
            store = Store(idle(), size=3)
            store.put(A, B, C)
            store.crash(*kept)
            self.assert_same(store.events(), events)

    def test_full_pages_only(self):
        store = Store(idle(), size=2)
        store.put(A, B, C, D)
        store.crash(1, 3)
        self.assert_same((store.events(), store.pages()), ([A, B, C, D], [(A, B), (C, D)]))
        store.put(E)
        self.assert_same(store.pending(), [(2, (E,))])
        store.crash()
        self.assert_same((store.events(), store.pages()), ([A, B, C, D], [(A, B), (C, D)]))

    def test_any_deeds_in_any_order(self):
        dice = chance(201)
        for size in range(1, 21):
            for program in (cash(), lights(), idle()):
                store, plain = Store(program, size=size), PlainStore(size)
                for _ in range(25):
                    self.deed(dice, program, store, plain)
                    self.check(store, plain)

    def deed(self, dice, program, store, plain):
        """Does something at random to both."""
        word = dice.choice(["put", "put", "put", "sync", "crash", "none", "all"])
        indexes = list(range(len(plain.pending)))
        before = list(plain.events)
        if word == "put":
            events = [some_event(dice, program) for _ in range(dice.choice([0, 1, 1, 2, 7]))]
            if len(before) + len(events) <= 200:
                store.put(*events)
                plain.put(events)
        elif word == "sync":
            store.sync()
            plain.sync()
        else:
            kept = {"none": [], "all": indexes}.get(word, [at for at in indexes if dice.random() < 0.7])
            kept = kept + dice.sample(kept, len(kept) // 3)
            dice.shuffle(kept)
            store.crash(*kept)
            plain.crash(kept)
            self.assertEqual(store.events(), before[:len(store)])

    def test_what_is_synced_is_never_lost(self):
        dice = chance(202)
        for size in (1, 2, 3, 4, 20):
            store = Store(cash(), size=size)
            synced = []
            for _ in range(60):
                if len(store) < 190:
                    store.put(*[some_event(dice, cash()) for _ in range(dice.randint(0, 5))])
                before = store.events()
                if dice.random() < 0.4:
                    store.sync()
                    synced = store.events()
                if dice.random() < 0.5:
                    many = len(store.pending())
                    store.crash(*[at for at in range(many) if dice.random() < 0.5])
                    self.assertEqual(store.events(), before[:len(store)])
                self.assertEqual(store.events()[:len(synced)], synced)

    def test_200_events_and_one_more(self):
        for size in (1, 7, 20):
            store = Store(idle(), size=size)
            store.put(*[("a", at) for at in range(199)])
            self.assert_refused("Full", [200], store.put, A, B)
            self.assert_same((len(store), len(store.pending())), (199, 199))
            store.put(A)
            for events in ([A], [A, B], [("a", at) for at in range(201)]):
                self.assert_refused("Full", [200], store.put, *events)
            store.put()
            self.assert_same((len(store), len(store.pending()), store.pages()), (200, 200, []))
            store.crash(*range(100))
            self.assert_same(len(store), 100)
            store.put(*[("a", at) for at in range(100)])
            self.assert_refused("Full", [200], store.put, A)
            self.assert_same((len(store), len(store.pending())), (200, 100))
        self.assert_refused("Full", [200], Store(idle()).put, *[A] * 201)


class Wrong(Checks):
    def test_sizes(self):
        for value in beyond(1, 20):
            self.assert_refused("InvalidCount", [value], Store, idle(), size=value)
        for size in (1, 2, 19, 20):
            self.assert_same(Store(idle(), size=size).size, size)

    def test_sizes_are_passed_by_name(self):
        with self.assertRaises(TypeError):
            Store(idle(), 3)
        self.assert_same(Store(size=3, program=idle()).size, 3)

    def check_as_it_was(self, store):
        self.assert_same(store.events(), [("pay", 1), ("pay", 2), ("pay", 3), ("pay", 4), ("reset", 5)])
        self.assert_same(store.pages(), [(("pay", 1), ("pay", 2)), (("pay", 3),)])
        self.assert_same(store.pending(), [(1, (("pay", 3), ("pay", 4))), (2, (("reset", 5),))])
        self.assert_same((store.restarts, len(store), repr(store)), (0, 5, "Store(5 events)"))

    def test_events(self):
        store = half_synced()
        good = [("pay", 1), ("reset", 2), ("pay", MOST)]
        for value in ODD + [("pay",), ["pay", 1], ("pay", 1, 1), ("on", 1), ("pay", True), ("pay", MOST + 1), (1, "pay"),
                            [("pay", 1)], [], ()]:
            for at in range(4):
                self.assert_refused("InvalidEvent", [at], store.put, *good[:at], value, *good[at:])
                self.assert_refused("InvalidEvent", [at], store.put, *good[:at], value, value, *good[at:], None)
        self.check_as_it_was(store)

    def test_wrong_events_come_ahead_of_too_many(self):
        store = Store(idle())
        self.assert_refused("InvalidEvent", [250], store.put, *[A] * 250, None)
        self.assert_same((len(store), store.pending()), (0, []))

    def test_indexes(self):
        store = half_synced()
        for value in beyond(0, 1):
            self.assert_refused("InvalidPending", [value], store.crash, value)
            self.assert_refused("InvalidPending", [value], store.crash, 0, value)
            self.assert_refused("InvalidPending", [value], store.crash, 1, 0, value, None, 9)
            self.assert_refused("InvalidPending", [value], store.crash, value, value, 0)
        self.check_as_it_was(store)
        for value in ODD + [0, -1, 1]:
            self.assert_refused("InvalidPending", [value], Store(idle()).crash, value)
        store.sync()
        self.assert_refused("InvalidPending", [0], store.crash, 0)


class Copies(Checks):
    def test_returned_lists_are_new(self):
        store = half_synced()
        before = told(store)
        for call in (store.events, store.pending, store.pages):
            call().append(None)
            call().clear()
            call().reverse()
        self.assert_same(told(store), before)
        store.crash(0, 1)
        self.assert_same(len(store), 5)

    def test_logs(self):
        store = half_synced()
        log = store.log()
        self.assertIs(type(log), KeptLog)
        self.assertEqual(log, KeptLog(cash(), store.events()))
        self.assert_same((log.worked, log.events(), log.height(5)), (5, store.events(), 1))
        log.cut(0)
        log.put(("pay", 9))
        self.assert_same(len(store), 5)
        log = store.log()
        store.crash()
        self.assert_same((len(store), len(log), store.log().worked), (3, 5, 3))
        self.assert_same((len(Store(cash()).log()), Store(cash()).log().worked), (0, 0))

    def test_twins(self):
        store = half_synced()
        store.crash(0)
        store.put(("pay", 6))
        twin = store.twin()
        self.assertIs(type(twin), Store)
        before = told(store)
        self.assert_same(told(twin), before)
        self.assert_same(before[:3], (2, 1, [("pay", 1), ("pay", 2), ("pay", 3), ("pay", 4), ("pay", 6)]))
        twin.put(("reset", 1))
        twin.sync()
        twin.crash()
        self.assert_same(told(store), before)
        self.assert_same((twin.restarts, len(twin)), (2, 6))
        kept = told(twin)
        store.crash()
        store.crash()
        self.assert_same(told(twin), kept)
        self.assert_same((store.restarts, len(store)), (3, 4))

    def test_each_deed_of_a_twin_alone(self):
        for deed in ("put", "sync", "crash"):
            for mine, theirs in ((0, 1), (1, 0)):
                pair = [half_synced()]
                pair.append(pair[0].twin())
                before = told(pair[0])
                getattr(pair[mine], deed)(*[("pay", 7)] if deed == "put" else [])
                self.assert_same(told(pair[theirs]), before)
                self.assertNotEqual(told(pair[mine]), before)
