"""Points 2, 3 and 6 over the whole program, of shops that are read from texts and kept by desks."""

import copy
import random
import unittest

import plain
from needplan.cheap import bought, cheapest, cost_of, right_values
from needplan.desk import Desk
from needplan.errors import NeedError, Ring
from needplan.explode import explode
from needplan.order import check_rings, levels, times, worked
from needplan.pegs import pegs, serves
from needplan.plans import begun, days_of, judged, needs, planned, stocks
from needplan.shifts import late, most, put_off, with_want
from needplan.texts import read_shop, shown_shop
from samples import RINGS, busy_shops, changed, full_shops, shop


def told_of(asked, plan, name, terms):
    """What each function that takes a shop is asked with, and tells."""
    return {
        "levels": lambda: levels(asked), "worked": lambda: worked(asked), "times": lambda: times(asked),
        "check_rings": lambda: check_rings(asked), "explode": lambda: explode(asked), "days_of": lambda: days_of(asked),
        "begun": lambda: begun(asked, plan, name), "needs": lambda: needs(asked, plan, name),
        "stocks": lambda: stocks(asked, plan, name), "judged": lambda: judged(asked, plan),
        "planned": lambda: planned(asked), "put_off": lambda: put_off(asked, 3), "late": lambda: late(asked),
        "with_want": lambda: with_want(asked, name, 3, 4), "most": lambda: most(asked, name, 2),
        "pegs": lambda: pegs(asked, plan, name), "serves": lambda: serves(asked, plan, name, 5),
        "bought": lambda: bought(asked, name, terms)}


def answer(call):
    try:
        return call()
    except NeedError as refusal:
        return refusal.__class__


class Whole(unittest.TestCase):
    def shops(self):
        """Each one beside the one that its text reads as."""
        for asked in [*busy_shops(60, 901), *full_shops(40, 902)]:
            yield asked, read_shop(shown_shop(asked))

    def test_shops_of_texts_are_told_the_same_of(self):
        for asked, read in self.shops():
            found = planned(asked)
            terms = [(7, 2, 1)] * days_of(asked)
            for name in found[1]:
                plan = found[1] if found[0] == "plan" else {entry[0]: [0] * days_of(asked) for entry in asked[0]}
                here, there = told_of(asked, plan, name, terms), told_of(read, plan, name, terms)
                for call in here:
                    if found[0] == "plan" or call not in ("pegs", "serves"):
                        self.assertEqual(answer(here[call]), answer(there[call]), (call, asked, name))

    def test_what_is_told_is_the_asker_s_own(self):
        for asked, read in self.shops():
            found = planned(read)
            if found[0] == "plan":
                self.changed_and_asked_again(read, found[1])
                self.assertEqual(read, asked)

    def changed_and_asked_again(self, asked, plan):
        terms = [(7, 2, 1)] * days_of(asked)
        handed = copy.deepcopy((asked, plan, terms))
        for name in plan:
            for call, ask in told_of(asked, plan, name, terms).items():
                told = answer(ask)
                former = copy.deepcopy(told)
                if isinstance(told, (list, dict, tuple)) and told:
                    self.change(told)
                self.assertEqual(answer(ask), former, (call, asked, name))
                self.assertEqual((asked, plan, terms), handed, call)

    def change(self, told):
        """Changes what can be changed of it; an empty list is only made longer."""
        for entry in list(told.values()) if isinstance(told, dict) else told:
            if isinstance(entry, list):
                entry.append("more")
            elif isinstance(entry, dict):
                changed(entry)
        if isinstance(told, (list, dict)):
            changed(told)

    def test_the_promise(self):
        source = random.Random(903)
        for asked, read in self.shops():
            found = planned(read)
            days = late(read)
            self.assertEqual(days == 0, found[0] == "plan")
            if found[0] == "short":
                self.put_off_just_enough(read, days)
                continue
            self.assertEqual(judged(read, found[1]), ("good",))
            loose = plain.loose_plan(read, source)
            for name in found[1]:
                if loose is not None:
                    by_day = zip(plain.itertools.accumulate(loose[name]), plain.itertools.accumulate(found[1][name]))
                    self.assertTrue(all(more >= least for more, least in by_day), (read, name))
                self.assertEqual(pegs(read, found[1], name), plain.pegs(read, found[1], name))

    def put_off_just_enough(self, asked, days):
        if days is None:
            for more in (0, 1, 40, 200):
                self.assertEqual(plain.planned(put_off(asked, more))[0], "short")
        else:
            self.assertEqual(plain.planned(put_off(asked, days))[0], "plan")
            self.assertEqual(plain.planned(put_off(asked, days - 1))[0], "short")

    def test_what_is_bought(self):
        for asked, read in self.shops():
            terms = [(9, 2, 1)] * days_of(read)
            for entry in read[0]:
                told = answer(lambda: bought(read, entry[0], terms))
                if isinstance(told, tuple):
                    wanted = [lots * entry[2] for lots in planned(read)[1][entry[0]]]
                    late_terms = [(None, 2, 1)] * min(entry[1], len(terms)) + terms[entry[1]:]
                    self.assertEqual(told[0], cost_of(wanted, late_terms, told[1]))
                    self.assertEqual(told[0], sum(told[2]))
                    self.assertIs(right_values(wanted, late_terms, told[2]), True)
                    self.assertEqual(told, cheapest(wanted, late_terms))

    def test_rings(self):
        for rows in RINGS:
            asked = read_shop(shown_shop(shop(rows, [(rows[0].split()[0], 2, 1)])))
            plan = {entry[0]: [0, 0, 0] for entry in asked[0]}
            for name in (asked[0][0][0], "zzz"):
                for call, ask in told_of(asked, plan, name, [(1, 1, 1)] * 3).items():
                    self.assertRaises(Ring, ask)
            self.assertRaises(Ring, Desk().tell, "shop\n" + shown_shop(asked))


if __name__ == "__main__":
    unittest.main()
