"""Point 9: which items go and come, what must be moved, and the chains that show it."""

import copy
import itertools
import random
import unittest

from helping import ANY, project
from planning import otherwise
from sourceback.edits import wish_of
from sourceback.errors import BadEdit, Refused, StepError
from sourceback.rows import chains, coming, going, moves, shows_chains
from test_examples import PEOPLE, drag
from sourceback.projects import Project

A, B = ("main", ("people", 0, "cards")), ("main", ("people", 1, "cards"))
ALL = ("main", ("people",))
TWO = PEOPLE[1].replace("document {", "document { every: for t in tasks give card { title: t.title }")


def loops(count, shown, names="abc"):
    """A project of a list of so many items and loops that show these serials, and a list that none shows."""
    items = " ".join("{ " + " ".join(f"{name}: {int(serial in serials)}" for name, serials in zip(names, shown)) + " }"
                     for serial in range(count))
    fields = ", ".join(f"{name}: number" for name in names[:len(shown)])
    rows = " ".join(f"{name}: for g in goods where g.{name} = 1 give line {{ p: g.{name} }}" for name in names[:len(shown)])
    return project(f"import lib list goods ({fields}) [ {items} ] document {{ {rows} let veil: new box }}",
                   lib="list dull (n: number) [ { n: 0 } { n: 1 } ] template line { p: 0 } "
                       "template box { rows: for d in dull give line { p: d.n } }")


def shuffled(made, chance, steps):
    """An edit of so many steps: rows moved within their loops, taken, put."""
    edit, following = (), made.next_serial("main", "goods")
    for _ in range(steps):
        rows = dict(wish_of(made, edit)[1])
        place = chance.choice(sorted(rows))
        what = chance.random()
        if what < 0.6 and rows[place]:
            step = ("carry", place, chance.choice(rows[place]), place, chance.randrange(len(rows[place])))
        elif what < 0.75 and rows[place]:
            step = ("take", place, chance.choice(rows[place]))
        else:
            serial = chance.choice(list(made.serials("main", "goods")) + [following])
            step = ("put", place, chance.randrange(len(rows[place]) + 1), serial, (("p", 5),))
            following += serial == following
        try:
            wish_of(made, edit + (step,))
            edit += (step,)
        except StepError:
            following = max([made.next_serial("main", "goods")] + [step[3] + 1 for step in edit if step[0] == "put"])
    return edit


class Order:
    """A second way to tell how the items of a list stand in a wish, by the words of the document."""

    def __init__(self, made, edit, locked=()):
        rows = dict(wish_of(made, edit)[1])
        self.rows = {place: serials for place, serials in rows.items() if place[0] == "main"}
        self.now = made.serials("main", "goods")
        before = dict(wish_of(made, ())[1])
        had = {serial for serials in before.values() for serial in serials}
        has = {serial for serials in rows.values() for serial in serials}
        self.comes = sorted(serial for serial in has if serial >= made.next_serial("main", "goods"))
        self.goes = [] if "main" in locked else sorted(had - has)
        self.stays = [serial for serial in self.now if serial not in self.goes]
        self.near = {(a, b) for serials in rows.values() for a, b in zip(serials, serials[1:])}
        self.far = set(self.near)
        while True:
            more = {(a, d) for a, b in self.far for c, d in self.near if b == c} - self.far
            if not more:
                break
            self.far |= more

    def in_circle(self):
        return [serial for serial in {a for a, _ in self.far} if (serial, serial) in self.far]

    def clash(self, one, other):
        return (self.now.index(one) < self.now.index(other)) == ((other, one) in self.far) and (
            (other, one) in self.far or (one, other) in self.far)

    def kept(self):
        """How many items that stay can keep their order: all parts of them without a clash tried."""
        best = 0
        for mask in range(1 << len(self.stays)):
            part = [serial for at, serial in enumerate(self.stays) if mask >> at & 1]
            if len(part) > best and not any(self.clash(a, b) for a, b in itertools.combinations(part, 2)):
                best = len(part)
        return best

    def shortest_circle(self):
        for length in range(2, 20):
            for trail in itertools.product(self.in_circle(), repeat=length):
                if all(pair in self.near for pair in zip(trail, trail[1:] + trail[:1])):
                    return length
        raise AssertionError

    def shows(self, value):
        """Whether a value is chains of this list, as few as there can be."""
        if type(value) is not tuple:
            return False
        seen = []
        for chain in value:
            if type(chain) is not tuple or len(chain) != 2 or type(chain[0]) is not tuple or type(chain[1]) is not tuple:
                return False
            items, roads = chain
            if not items or not all(type(item) is int and item in self.stays for item in items) or len(roads) != len(items) - 1:
                return False
            if [self.now.index(item) for item in items] != sorted({self.now.index(item) for item in items}):
                return False
            if not all(self.is_road(road, b, a) for road, a, b in zip(roads, items, items[1:])):
                return False
            seen += items
        return (sorted(seen) == sorted(self.stays) and len(value) == self.kept()
                and [chain[0] for chain in value] == sorted(chain[0] for chain in value))

    def is_road(self, road, start, end):
        if type(road) is not tuple or not road or not all(type(part) is tuple and len(part) == 2 for part in road):
            return False
        if not all(type(item) is int and strict_place(place) for item, place in road) or road[0][0] != start:
            return False
        items = [item for item, _ in road] + [end]
        return all((a, b) in zip(self.rows.get(place, ()), self.rows.get(place, ())[1:])
                   for a, b, (_, place) in zip(items, items[1:], road))


def strict_place(place):
    return (type(place) is tuple and len(place) == 2 and type(place[0]) is str and type(place[1]) is tuple
            and all(type(part) in (str, int) for part in place[1]))


class Examples(unittest.TestCase):
    def setUp(self):
        self.project = Project((PEOPLE,))

    def test_moves_and_going(self):
        self.assertEqual([moves((0, 1, 2), (0, 2, 1)), going(self.project, (("take", ALL, 0),))],
                         [1, (("main", "people", 0), ("main", "tasks", 0), ("main", "tasks", 2))])

    def test_a_card_that_is_carried(self):
        self.assertEqual((going(self.project, drag), coming(self.project, drag)), ((), ()))
        found = chains(self.project, drag)
        self.assertEqual([(file, name, [items for items, _ in parts]) for file, name, parts in found],
                         [("main", "people", [(0,), (1,)]), ("main", "tasks", [(0,), (1, 2)])])
        self.assertEqual(found[1][2][1], ((1, 2), (((2, B),),)))
        self.assertTrue(shows_chains(self.project, drag, found))

    def test_a_person_that_is_put(self):
        put = (("put", ALL, 2, 2, (("name", "Cy"), ("cards", ((1, (("title", "b"),)),)))),)
        edit = put + (("take", B, 1),)
        self.assertEqual((going(self.project, edit), coming(self.project, edit)), ((), (("main", "people", 2),)))

    def test_a_card_that_another_document_shows_stays(self):
        two = project(TWO)
        edit = (("take", A, 2),)
        self.assertEqual(going(self.project, edit), (("main", "tasks", 2),))
        self.assertEqual(going(two, edit), ())
        self.assertEqual(going(two, edit + (("take", ("main", ("every",)), 2),)), (("main", "tasks", 2),))

    def test_locked(self):
        edit = (("take", ALL, 0),)
        self.assertEqual(going(self.project, edit, locked=("main",)), ())
        self.assertEqual(going(self.project, edit, locked=("lib",)), going(self.project, edit))
        found = chains(self.project, edit, locked=("main",))
        self.assertEqual([(name, len(parts)) for _, name, parts in found], [("people", 2), ("tasks", 3)])
        self.assertEqual([(name, len(parts)) for _, name, parts in chains(self.project, edit)], [("people", 1), ("tasks", 1)])
        self.assertTrue(shows_chains(self.project, edit, found, locked=("main",)))
        self.assertFalse(shows_chains(self.project, edit, found))

    def test_lists_without_items_that_stay_have_no_chains(self):
        empty = project("list none (n: number) [ ] list l (n: number) [ { n: 1 } ] template t { } document { r: for x in l give t s: for x in none give t }")
        self.assertEqual(chains(empty, ()), (("main", "l", (((0,), ()),)),))
        self.assertEqual(chains(empty, (("take", ("main", ("r",)), 0),)), ())
        self.assertTrue(shows_chains(empty, (("take", ("main", ("r",)), 0),), ()))
        self.assertEqual(coming(empty, (("put", ("main", ("s",)), 0, 0, ()),)), (("main", "none", 0),))

    def test_items_without_a_row_stay(self):
        found = loops(3, [{0}, {1}])
        self.assertEqual(going(found, (("take", ("main", ("a",)), 0),)), (("main", "goods", 0),))
        self.assertEqual([name for _, name, _ in chains(found, ())], ["dull", "goods"])
        self.assertEqual(len(chains(found, (("take", ("main", ("a",)), 0),))[1][2]), 2)


class Moves(unittest.TestCase):
    def test_all_lots(self):
        """Against all that can keep their order, tried one by one."""
        for count in range(7):
            for new in itertools.permutations(range(count)):
                most = max(len(part) for part in self.ascending(new))
                self.assertEqual(moves(tuple(range(count)), new), count - most)
        chance = random.Random(1)
        for _ in range(60):
            new = tuple(chance.sample(range(7), 7))
            self.assertEqual(moves(tuple(range(7)), new), 7 - max(len(part) for part in self.ascending(new)))

    def ascending(self, serials):
        found = [()]
        for serial in serials:
            found += [part + (serial,) for part in found if not part or part[-1] < serial]
        return found

    def test_left_out_and_new(self):
        chance = random.Random(2)
        for _ in range(300):
            old = tuple(chance.sample(range(12), chance.randrange(8)))
            new = tuple(chance.sample(range(12), chance.randrange(8)))
            both = [old.index(serial) for serial in new if serial in old]
            self.assertEqual(moves(old, new), len(both) - max(len(part) for part in self.ascending(both)))
            self.assertEqual(moves(new, old), moves(old, new))
        self.assertEqual((moves((), ()), moves((1,), ()), moves((), (1,)), moves(old=(1, 2), new=(2, 1))), (0, 0, 0, 1))


class ByChance(unittest.TestCase):
    def wishes(self, seed, many, most=6, loops_=(2, 3)):
        chance = random.Random(seed)
        for _ in range(many):
            count = chance.randrange(most + 1)
            shown = [{serial for serial in range(count) if chance.random() < 0.7} for _ in range(chance.choice(loops_))]
            made = loops(count, shown)
            yield made, shuffled(made, chance, chance.randrange(1, 6)), chance

    def test_going_and_coming(self):
        seen = set()
        for made, edit, chance in self.wishes(3, 250):
            for locked in ((), ("main",), ("lib",), ("lib", "main")):
                order = Order(made, edit, locked)
                self.assertEqual(going(made, edit, locked=locked), tuple(("main", "goods", serial) for serial in order.goes))
                self.assertEqual(coming(made, edit), tuple(("main", "goods", serial) for serial in order.comes))
                seen.add((bool(order.goes), bool(order.comes)))
        self.assertEqual(len(seen), 4)

    def test_chains(self):
        counts = {"circle": 0, "moved": 0}
        for made, edit, chance in self.wishes(4, 400):
            for locked in ((), ("main",)):
                order = Order(made, edit, locked)
                if order.in_circle():
                    counts["circle"] += 1
                    self.circle(made, edit, locked, order)
                    continue
                found = chains(made, edit, locked=locked)
                listed = [("lib", "dull")] + ([("main", "goods")] if order.stays else [])
                self.assertEqual([part[:2] for part in found], listed)
                self.assertEqual(found[0][2], (((0,), ()), ((1,), ())))
                if order.stays:
                    self.assertTrue(order.shows(found[1][2]), (made["main"], edit))
                    counts["moved"] += len(found[1][2]) < len(order.stays)
                self.assertIs(shows_chains(made, edit, found, locked=locked), True)
        self.assertGreater(min(counts.values()), 60)

    def circle(self, made, edit, locked, order):
        for ask in (lambda: chains(made, edit, locked=locked), lambda: shows_chains(made, edit, (), locked=locked)):
            with self.assertRaises(Refused) as caught:
                ask()
            error = caught.exception
            self.assertEqual(error.word, "order")
            self.assertEqual(len(error.paper), order.shortest_circle())
            for (one, place), (other, _) in zip(error.paper, error.paper[1:] + error.paper[:1]):
                self.assertIn((one, other), list(zip(order.rows[place], order.rows[place][1:])))

    def test_circles_of_two_and_more(self):
        lengths = set()
        for shown, edit in [([{0, 1}, {0, 1}], [("a", (1, 0))]), ([{0, 1, 2}, {0, 2}], [("b", (2, 0))]),
                            ([{0, 1}, {1, 2}, {0, 2}], [("c", (2, 0))]), ([{0, 1, 2, 3}, {0, 3}], [("b", (3, 0))]),
                            ([{0, 1}, {2, 3}, {1, 2}], [("c", (2, 1)), ("a", (0, 1)), ("b", (2, 3))])]:
            made = loops(4, shown)
            steps = ()
            for name, wanted in edit:
                for at, serial in enumerate(wanted):
                    steps += (("carry", ("main", (name,)), serial, ("main", (name,)), at),)
            order = Order(made, steps)
            if order.in_circle():
                self.circle(made, steps, (), order)
                lengths.add(order.shortest_circle())
            else:
                self.assertTrue(shows_chains(made, steps, chains(made, steps)))
        self.assertEqual(lengths, {2, 3, 4})

    def test_shows_chains_of_other_values(self):
        accepted = 0
        for made, edit, chance in self.wishes(5, 160):
            order = Order(made, edit)
            if order.in_circle() or not order.stays:
                continue
            found = chains(made, edit)
            for _ in range(25):
                value = otherwise(found, chance)
                before = copy.deepcopy(value)
                expected = (type(value) is tuple and len(value) == 2 and value[0] == found[0] and strict(value[0])
                            and type(value[1]) is tuple and len(value[1]) == 3 and value[1][:2] == ("main", "goods")
                            and order.shows(value[1][2]))
                self.assertIs(shows_chains(made, edit, value), expected, (made["main"], edit, value))
                self.assertEqual(value, before)
                accepted += expected and value != found
            for value in ANY + [found[1:], found[:1], found + found[1:], (found[1], found[0]), list(found), (found[0], list(found[1]))]:
                self.assertIs(shows_chains(made, edit, value), False)

    def test_more_and_fewer_chains_other_roads(self):
        made = loops(4, [{0, 1, 2, 3}, {0, 1, 3}])
        a, b = ("main", ("a",)), ("main", ("b",))
        edit = (("carry", a, 3, a, 0), ("carry", b, 3, b, 0))
        # The wish: a has 3 0 1 2, b has 3 0 1.
        dull = ("lib", "dull", (((0,), ()), ((1,), ())))
        short, other, long = ((3, a),), ((3, b),), ((3, a), (0, b))
        good = [(((0, 3), (short,)), ((1,), ()), ((2,), ())), (((0, 3), (other,)), ((1,), ()), ((2,), ())),
                (((0,), ()), ((1, 3), (long,)), ((2,), ())), (((0,), ()), ((1, 3), (((3, b), (0, a)),)), ((2,), ())),
                (((0,), ()), ((1,), ()), ((2, 3), (((3, b), (0, a), (1, a)),)))]
        bad = [(((0,), ()), ((1,), ()), ((2,), ()), ((3,), ())), (((0, 3), (short,)), ((1,), ())), (((0, 3), (short,)), ((1, 2), (((2, a),),))),
               (((0, 3), ()), ((1,), ()), ((2,), ())), (((0, 3), (((0, a),),)), ((1,), ()), ((2,), ())), (((3, 0), (short,)), ((1,), ()), ((2,), ())),
               (((0,), ()), ((1, 3), (short,)), ((2,), ())), (((0,), ()), ((1,), ()), ((2, 3), (((3, b), (0, a), (1, b)),))),
               (((1,), ()), ((0, 3), (short,)), ((2,), ())), (((0, 3), (short, short)), ((1,), ()), ((2,), ())),
               (((0, 3), (((3, ("main", ("c",))),),)), ((1,), ()), ((2,), ())), (((0, 3), (((3, ("lib", ("a",))),),)), ((1,), ()), ((2,), ())),
               (((), ()), ((0, 3), (short,)), ((1,), ()), ((2,), ())), (((False, 3), (short,)), ((True,), ()), ((2,), ())), None, ()]
        for parts in good:
            self.assertIs(shows_chains(made, edit, (dull, ("main", "goods", parts))), True, parts)
        for parts in bad:
            self.assertIs(shows_chains(made, edit, (dull, ("main", "goods", parts))), False, parts)
        self.assertIs(shows_chains(made, edit, (dull[:2] + (((False,), ()), ((True,), ())),) + (("main", "goods", good[0]),)), False)


def strict(value):
    return not isinstance(value, (bool, list, dict)) and (type(value) is not tuple or all(strict(part) for part in value))


class Errors(unittest.TestCase):
    ASK = (lambda made, edit: going(made, edit), lambda made, edit: going(made, edit, locked=("main",)), coming, chains,
           lambda made, edit: chains(made, edit, locked=("main",)), lambda made, edit: shows_chains(made, edit, None),
           lambda made, edit: shows_chains(made, edit, (), locked=("main",)))

    def test_values_that_are_no_edits(self):
        made = Project((PEOPLE,))
        for ask in self.ASK:
            for value in [value for value in ANY if value != ()] + [list(drag), (list(drag[0]),), drag[0]]:
                before = copy.deepcopy(value)
                with self.assertRaises(BadEdit) as caught:
                    ask(made, value)
                self.assertIs(caught.exception.value, value)
                self.assertEqual(value, before)

    def test_steps_that_cannot_be_made(self):
        made = loops(2, [{0, 1}, {0, 1}])
        a = ("main", ("a",))
        circle = (("carry", a, 1, a, 0),)
        for ask in self.ASK:
            for edit, index, word in [(circle + (("take", a, 2),), 1, "serial"), ((("set", a, 3),) + circle, 0, "place"),
                                      (circle + (("carry", a, 0, a, 2),), 1, "index")]:
                with self.assertRaises(StepError) as caught:
                    ask(made, edit)
                self.assertEqual((caught.exception.index, caught.exception.word), (index, word))
            with self.assertRaises(BadEdit):
                ask(made, circle + (("take", a, True),))

    def test_circles_are_refused_by_chains_alone(self):
        made = loops(2, [{0, 1}, {0, 1}])
        edit = (("carry", ("main", ("a",)), 1, ("main", ("a",)), 0),)
        self.assertEqual((going(made, edit), coming(made, edit)), ((), ()))
        for ask in (chains, lambda made, edit: shows_chains(made, edit, [])):
            with self.assertRaises(Refused) as caught:
                ask(made, edit)
            self.assertEqual((caught.exception.word, len(caught.exception.paper)), ("order", 2))

    def test_by_name(self):
        made = Project((PEOPLE,))
        self.assertEqual(going(project=made, edit=drag, locked=()), ())
        self.assertEqual(coming(project=made, edit=drag), ())
        found = chains(project=made, edit=drag, locked=())
        self.assertTrue(shows_chains(project=made, edit=drag, value=found, locked=()))
        for ask in (going, chains):
            with self.assertRaises(TypeError):
                ask(made, drag, ())


if __name__ == "__main__":
    unittest.main()
