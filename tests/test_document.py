import doctest
import os
import re
import unittest

README = os.path.join(os.path.dirname(os.path.dirname(os.path.abspath(__file__))), "README.md")

# The examples of DOC.md, stage by stage; a later one uses the names of the earlier ones.
EXAMPLES = [
    ("Stage 1", r'''
>>> from loneseats.kinds import is_sale, is_stretch
>>> from loneseats.stretches import fits, parts, turned
>>> [is_stretch(("wall", 7, "sold")), is_stretch(["wall", 7, "sold"]), is_sale((0, 4, 2))]
[True, False, True]
>>> [parts(("wall", 7, "pillar"), 2, 1), turned(("wall", 7, "sold")), fits(("wall", 7, "sold"), 3, 5)]
[(('wall', 1, 'sold'), ('sold', 4, 'pillar')), ('sold', 7, 'wall'), False]
'''),
    ("Stage 2", r'''
>>> from loneseats.choices import is_stuck, offered, refuses, sales
>>> from loneseats.rules import Rule
>>> pairs = Rule([2], {"sold": [1]})
>>> [offered(pairs, ("sold", 5, "sold"), 2), is_stuck(pairs, ("sold", 3, "sold")), refuses(pairs, ("wall", 3, "sold"), 2)]
[[0, 3], True, False]
>>> [offered(pairs.with_soft(True), ("sold", 3, "sold"), 2), sales(pairs.with_offer(1), ("wall", 5, "wall")), pairs.span()]
[[0, 1], [(2, 0)], 4]
'''),
    ("Stage 3", r'''
>>> from loneseats.halls import Hall
>>> from loneseats.plans import Plan
>>> from loneseats.plays import behind, is_whole
>>> from loneseats.rules import Rule
>>> strict, plan = Rule([2], {"sold": [1]}), Plan([[5, 3]])
>>> plan.stretches()
[(0, 0, ('wall', 5, 'pillar')), (0, 5, ('pillar', 3, 'wall'))]
>>> hall = Hall(plan, strict)
>>> hall.sell(0, 1, 2)
>>> [hall.stretches(), hall.offers(2), behind(strict, plan, [(0, 1, 2)]) == hall.stretches()]
[[(0, 0, ('wall', 1, 'sold')), (0, 3, ('sold', 2, 'pillar')), (0, 5, ('pillar', 3, 'wall'))], [(0, 3), (0, 5), (0, 6)], True]
>>> is_whole(strict, plan, [(0, 1, 2), (0, 3, 2), (0, 5, 2)])
True
'''),
    ("Stage 4", r'''
>>> from loneseats.plans import Plan
>>> from loneseats.rules import Rule
>>> from loneseats.sums import greatest_in
>>> from loneseats.totals import greatest, least, table, totals_of
>>> from loneseats.worths import Worth
>>> empty, bare, strict = Worth(free=1), Rule([2]), Rule([2], {"sold": [1]})
>>> table(bare, empty, "sold", "sold", 8)
[0, 1, 0, 1, 2, 1, 2, 3, 2]
>>> table(strict, empty, "sold", "sold", 8)
[0, 1, 0, 3, 0, 3, 0, 3, 6]
>>> [greatest(strict, empty, ("wall", 7, "wall")), least(strict, empty, ("wall", 7, "wall")), greatest_in(strict, empty, Plan([[7, 2], [3]]))]
[3, 1, 4]
>>> totals_of(strict, empty, ("wall", 7, "wall"))
[1, 3]
'''),
    ("Stage 5", r'''
>>> from loneseats.forms import form, value
>>> from loneseats.guides import guide, is_guide
>>> from loneseats.items import best_item, items, rate
>>> from loneseats.papers import is_paper, paper
>>> [items(strict, empty), best_item(strict, empty), rate(strict, empty), rate(bare, empty), rate(strict.with_soft(True), empty)]
[[(2, 0), (4, 0), (5, 3)], (5, 3), (3, 5), (1, 3), (1, 5)]
>>> told = form(strict, empty, "sold", "sold")
>>> [told, value(told, 10 ** 20 + 3)]
[(2, 5, 3, (0, 1, 0, 3, 0, 3, 0)), 60000000000000000003]
>>> is_paper(strict, empty, paper(strict, empty)) and is_guide(strict, empty, paper(strict, empty), guide(strict, empty))
True
'''),
    ("Stage 6", r'''
>>> from loneseats.comes import comes, lengths_of
>>> from loneseats.lone import lone_lengths, lone_play
>>> from loneseats.rules import Rule
>>> from loneseats.sure import always_from, least_length, sure
>>> strict = Rule([2], {"sold": [1]})
>>> comes(strict, ("sold", 5, "sold"))
[('sold', 3, 'sold'), ('sold', 5, 'sold')]
>>> [lone_play(strict, ("sold", 3, "sold"), 2), len(lone_play(strict, ("sold", 8, "sold"), 2))]
[[], 1]
>>> [lengths_of(strict, "sold", "sold", ("sold", 3, "sold")), lone_lengths(strict, "sold", "sold", 2)]
[(7, 1, (False, False, False, True, False, True, False, True)), (7, 1, (False, False, False, True, False, True, False, True))]
>>> [[sure(strict, ("sold", length, "sold")) for length in range(9)], least_length(strict, "sold", "sold", 1), always_from(strict, "sold", "sold", 1)]
[[0, 0, 1, 0, 2, 1, 3, 2, 1], 2, 4]
'''),
    ("Stage 7", r'''
>>> from loneseats.alikes import alike, parting
>>> from loneseats.compared import first_worse, never_worse, widest, worse_lengths
>>> from loneseats.late import late_table
>>> from loneseats.shapes import ranked, shape
>>> soft = strict.with_soft(True)
>>> [first_worse(strict, bare, empty, "sold", "sold"), widest(soft, bare, empty, "sold", "sold"), widest(strict, bare, empty, "sold", "sold")]
[3, 0, None]
>>> [alike(strict, soft), parting(strict, soft)[0][1], [(told, len(some)) for told, some in ranked(shape([2], 1), empty)]]
[False, 7, [((1, 5), 2), ((1, 3), 2), ((3, 5), 2)]]
>>> late_table([Rule([2, 3], {"sold": [1]}), strict], empty, "sold", "sold", 6)
[0, 1, 0, 3, 0, 3, 3]
'''),
    ("Stage 8", r'''
>>> from loneseats.counts import aways, first_refusal, good_order, surely_seated
>>> from loneseats.plans import Plan
>>> from loneseats.returns import breaks, most_free, states
>>> from loneseats.rules import Rule
>>> plan, loose, neat = Plan([[5]]), Rule([2, 3]), Rule([2, 3], {"sold": [1], "wall": [1]})
>>> [aways(loose, plan, {2: 1, 3: 1}), len(first_refusal(loose, plan, {2: 1, 3: 1})), good_order(loose, plan, {2: 1, 3: 1})]
[[0, 1], 2, None]
>>> [surely_seated(neat, plan, {2: 1, 3: 1}), good_order(neat, plan, {2: 1, 3: 1}), states(neat, 3)]
[True, [2, 3], [(), ((0, 3),)]]
>>> sides = Rule([2, 3], where="side")
>>> [most_free(sides, 6), most_free(sides, 6, returned=False), breaks(sides)[0]]
[2, 1, 6]
'''),
    ("Stage 9", r'''
>>> from loneseats.desk import Desk
>>> from loneseats.notation import show_rule
>>> from loneseats.readers import read_rule
>>> [show_rule(strict), read_rule("sizes 2 pillar - sold 1 wall - strict any 0") == strict]
['sizes 2 pillar - sold 1 wall - strict any 0', True]
>>> desk = Desk(strict, empty, Plan([[5, 3]]))
>>> [desk.execute("sell 0 1 2"), desk.execute("picture"), desk.execute("stretches"), desk.execute("greatest")]
['ok', '|.22..:...|\n', '0.0.wall.1.sold 0.3.sold.2.pillar 0.5.pillar.3.wall', '2']
'''),
]


class Examples(unittest.TestCase):
    """Examples that are told in words are run as they stand."""

    def run_all(self, examples):
        names, many = {}, 0
        for title, text in examples:
            with self.subTest(title=title):
                test = doctest.DocTestParser().get_doctest(text, names, title, None, 0)
                said = []
                told = doctest.DocTestRunner(verbose=False).run(test, out=said.append, clear_globs=False)
                self.assertEqual(told.failed, 0, "".join(said))
                many += told.attempted
                names = test.globs
        return many

    def test_all_stages(self):
        self.assertEqual(self.run_all(EXAMPLES), 69)
        self.assertEqual([title for title, text in EXAMPLES], ["Stage " + str(at) for at in range(1, 10)])

    def test_the_readme(self):
        with open(README, encoding="utf-8") as file:
            blocks = re.findall("```\n(>>> .*?)```", file.read(), re.S)
        self.assertGreater(self.run_all([("README.md", text) for text in blocks]), 30)


if __name__ == "__main__":
    unittest.main()
