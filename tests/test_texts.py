"""Stage 12, points [28] and [29]: papers."""

import copy
import random
import unittest

from bymarks.chains import is_chain
from bymarks.deals import is_deal, linear, plain
from bymarks.errors import InvalidEntries, InvalidLine
from bymarks.names import is_name
from bymarks.plans import is_plan
from bymarks.rules import is_rule
from bymarks.texts import paper_text, read_paper
from tests.samples import nested, other_values
from tests.samples_deals import GREAT, PLAIN
from tests.samples_plans import BOTH, NEW, OLD, plan_of
from tests.samples_rules import HERE, THERE, rule_of_levels, wrong_names
from tests.samples_texts import Reader, shuffled, some_papers, spaced, text_by_words, wrong_entries

CHECKS = {"deal": is_deal, "rule": is_rule, "chain": is_chain, "plan": is_plan}
CHAIN = {"b": ("g", 3, ("a", "x", "y")), "a": ("h", 2, ("b", "e"))}
ALL = [
    ("deal", "old", plain(4)), ("rule", "old", ("if", "h", 4, 1, ("split", "g", 2, (HERE, THERE)), ("place", 10 ** 300))),
    ("deal", "new", plain(6)), ("chain", "old", CHAIN), ("plan", "old", plan_of([OLD, BOTH, NEW], lag=True)),
    ("deal", "again", plain(6)), ("plan", "more", plan_of([OLD[:3] + ((("fill", 0, 1), ("drop", 1, 0)), "done")], True)),
    ("plan", "same", plan_of([OLD], deals=(plain(6), plain(6)))),
]
TEXT = f"""deal old 4 0+0
rule old if h 4 1 then split g 2 place 0 and place 1 else place {10 ** 300}
deal new 6 0+0
chain old
a h b e
b g a x y
end
plan old old new
lag
phase any
put 0
look 0
clear 0
phase done
put 0 1
look 0
clear 0 1
renew 0 1
phase any
put 1
look 1
clear 1
end
deal again 6 0+0
plan more old new
graves
phase done
put 0
look 0
fill 0 1
drop 1 0
end
plan same new new
phase any
put 0
look 0
clear 0
end
"""
DEALS = "deal old 4 0+0\ndeal new 6 0+0\n"
PHASE = "phase any\nput 0\nlook 0\n"


def read(text):
    """The entries of a text, or (line, reason)."""
    try:
        return read_paper(text)
    except InvalidLine as wrong:
        return (wrong.line, wrong.reason)


class TestPaperText(unittest.TestCase):

    def test_all_kinds(self):
        given = copy.deepcopy(ALL)
        self.assertEqual(paper_text(ALL), TEXT)
        self.assertEqual(ALL, given)
        self.assertEqual(paper_text([]), "")

    def test_deals(self):
        for deal, text in [
            (plain(1), "1 0+0"), (linear(4, 6), "8 0+0 6-4"), ((8, ((0, 3), (2, -2), (7, GREAT))), f"8 0+3 2-2 7+{GREAT}"),
            ((GREAT, ((0, 0), (GREAT - 1, 1 - GREAT))), f"{GREAT} 0+0 {GREAT - 1}-{GREAT - 1}"),
        ]:
            self.assertEqual(paper_text([("deal", "d", deal)]), f"deal d {text}\n")

    def test_rules(self):
        for rule, text in [
            (HERE, "place 0"), (("if", "h", 1, 0, HERE, THERE), "if h 1 0 then place 0 else place 1"),
            (("split", "ab", 3, (HERE, THERE, ("place", 7))), "split ab 3 place 0 and place 1 and place 7"),
            (("split", "h", 2, (("split", "g", 2, (HERE, THERE)), ("if", "h", 4, 3, THERE, HERE))),
             "split h 2 split g 2 place 0 and place 1 and if h 4 3 then place 1 else place 0"),
        ]:
            self.assertEqual(paper_text([("rule", "r", rule)]), f"rule r {text}\n")
            self.assertEqual(read_paper(f"rule r {text}"), [("rule", "r", rule)])

    def test_first_name_of_a_deal(self):
        # The first entry ahead with this value tells the name, not one behind the plan or of another value.
        entries = [("deal", "z", plain(4)), ("deal", "a", plain(6)), ("deal", "b", plain(4)), ("deal", "c", (8, ((0, 0), (4, -4))))]
        plan = ("plan", "p", plan_of([OLD]))
        self.assertIn("plan p z a\n", paper_text(entries + [plan]))
        self.assertIn("plan p z a\n", paper_text(entries + [plan, ("deal", "y", plain(4))]))

    def test_some_papers(self):
        for entries in some_papers(71, 150):
            given = copy.deepcopy(entries)
            self.assertEqual(paper_text(entries), text_by_words(entries))
            self.assertEqual(entries, given)

    def test_invalid_entries(self):
        deal, plan = ("deal", "a", plain(4)), ("plan", "p", plan_of([OLD]))
        wrong = wrong_entries() + [
            [deal, deal], [deal, ("deal", "b", plain(6)), ("deal", "a", plain(6))], [("rule", "r", HERE), ("rule", "r", THERE)],
            [("chain", "c", CHAIN), deal, ("chain", "c", CHAIN)], [plan], [deal, plan], [deal, plan, ("deal", "b", plain(6))],
            [deal, ("deal", "b", plain(7)), plan], [deal, ("deal", "b", (12, ((0, 0), (6, -6)))), plan],
            [deal, ("rule", "b", HERE), plan], [deal, ("deal", "b", plain(6)), plan, plan],
        ]
        for entries in wrong:
            with self.subTest(str(entries)[:200]), self.assertRaises(InvalidEntries):
                paper_text(entries)
        same = [(kind, "a", value) for kind, _, value in (ALL[0], ALL[1], ALL[3], ("plan", "", plan_of([OLD], deals=(plain(4),))))]
        self.assertEqual(read_paper(paper_text(same)), same)


class TestReadPaper(unittest.TestCase):

    def assert_line(self, text, line, reason):
        self.assertEqual(read(text), (line, reason), text)

    def test_back(self):
        self.assertEqual(read_paper(TEXT), ALL)
        self.assertEqual(read_paper(TEXT[:-1]), ALL)
        self.assertEqual((read_paper(""), read_paper("\n \n"), read_paper("   ")), ([], [], []))

    def test_some_papers(self):
        chance = random.Random(72)
        for entries in some_papers(73, 150):
            text = paper_text(entries)
            self.assertEqual(read_paper(text), entries)
            self.assertEqual(paper_text(read_paper(text)), text)
            for _ in range(3):
                self.assertEqual(read_paper(spaced(chance, text)), entries)

    def test_against_another_reader(self):
        chance = random.Random(74)
        seen = {}
        for entries in some_papers(75, 400):
            text = text_by_words(entries)
            for _ in range(8):
                changed = shuffled(chance, text)
                found = read(changed)
                self.assertEqual(found, Reader(CHECKS, is_name).read(changed), changed)
                seen[found[1] if isinstance(found, tuple) else "right"] = True
        self.assertEqual(set(seen), {"right", "line", "name", "deal", "rule", "chain", "plan"})

    def test_blanks(self):
        text = "\n  \n deal   old  4   0+0 \n\nchain  c \n  \n a h  b x \n\n end \n\n plan p  old\n\n lag \nphase any\n put 0\n\n look 0 \nend"
        self.assertEqual(read_paper(text), [
            ("deal", "old", PLAIN), ("chain", "c", {"a": ("h", 2, ("b", "x"))}),
            ("plan", "p", plan_of([OLD[:2] + ((), (), "any")], lag=True, deals=(PLAIN,)))])

    def test_tabs(self):
        self.assert_line("deal old 4 0+0\n\tdeal new 4 0+0", 1, "line")
        self.assert_line("deal\told 4 0+0", 0, "line")
        self.assert_line("deal old\t4 0+0", 0, "line")
        self.assert_line("deal old\t 4 0+0", 0, "name")
        self.assert_line("deal old 4\t 0+0", 0, "line")
        self.assert_line("deal old 4 0+0\n\t", 1, "line")
        self.assert_line("chain c\na h\t b x\nend", 1, "name")
        self.assert_line("chain c\na h b x\nend\t", 2, "line")

    def test_choosers_in_any_order(self):
        turned = "chain c\nb g a x y\na h b x\nend"
        self.assertEqual(read_paper(turned), read_paper("chain c\na h b x\nb g a x y\nend"))
        self.assertEqual(paper_text(read_paper(turned)), "chain c\na h b x\nb g a x y\nend\n")

    def test_any_deal_ahead(self):
        text = "deal a 4 0+0\ndeal b 4 0+0\nplan p b\nphase any\nput 0\nlook 0\nend\n"
        entries = read_paper(text)
        self.assertEqual(entries[2][2][0], (PLAIN,))
        self.assertEqual(paper_text(entries), text.replace("plan p b", "plan p a"))

    def test_same_name_in_two_kinds(self):
        text = "deal a 4 0+0\nrule a place 0\nchain a\na h b x\nend\nplan a a\nphase any\nput 0\nlook 0\nend\n"
        self.assertEqual([entry[:2] for entry in read_paper(text)], [(kind, "a") for kind in ("deal", "rule", "chain", "plan")])

    def test_lines_at_the_top(self):
        for text in ("x", "end", "graves", "lag", "phase any", "put 0", "deals old 4 0+0", "Deal old 4 0+0", "place 0", "0",
                     "a h b x", "deal", "rule", "chain", "plan", "class 4 1"):
            self.assert_line(text, 0, "line")
            self.assert_line(f"\n{DEALS}\n{text}\nx", 4, "line")

    def test_lines_of_deals(self):
        for text in ("old", "old 4", "old 4 0", "old 0+0", "4 0+0", "old 4 0 +0", "old 4 +0", "old 4 0+", "old 4 0-0", "old 4 0+00",
                     "old 4 00+0", "old 04 0+0", "old -4 0+0", "old +4 0+0", "old 4 0+0 2-02", "old 4 0+0 2--2", "old 4 0+0 2+-2",
                     "old 4 0+0 2-2-2", "old 4 0+0+0", "old 4 0+0,2-2", "old 4 0+0 x", "old x 0+0", "old 4 a+0", "old 4 0+a",
                     "old 4.0 0+0", "old 4 0+0 -0", "old 4 -0+0", "old 4 (0,0)", "old 4_0 0+0"):
            self.assert_line(f"deal {text}", 0, "line")
        for text in ("0 0+0", f"{GREAT + 1} 0+0", "4 1+0", "4 0+0 0+0", "4 0+0 4-4", "4 0+0 3-4", "4 0-1", f"4 0+{GREAT + 1}",
                     "60 0+0 10+0 20+0 30+0 40+0 50+0 51+0", "4 0+0 2+0 1+0"):
            self.assert_line(f"deal old {text}", 0, "deal")
            self.assert_line(f"{DEALS}deal old {text}", 2, "name")
            self.assert_line(f"deal then {text}", 0, "name")
        self.assert_line("deal then 4 0+00", 0, "line")

    def test_lines_of_rules(self):
        for text in ("r", "r place", "r place x", "r place 01", "r place -0", "r place -1", "r place 0 0", "r place 0 place 1",
                     "r if h 4 1 place 0 else place 1", "r if h 4 1 then place 0", "r if h 4 1 then place 0 else",
                     "r if h 4 1 then else place 0", "r if h 4 then place 0 else place 1", "r if h x 1 then place 0 else place 1",
                     "r if h 4 1 then place 0 else place 1 else place 2", "r split h 2 place 0", "r split h 2 place 0 and",
                     "r split h 2 place 0 place 1", "r split h 2 place 0 and place 1 and place 2", "r split h 0", "r split h",
                     "r split h 0 place 0", "r split h 1 and place 0", "r split h x place 0 and place 1", "r split", "r if",
                     "place 0", "r place 0 and place 1", "r x", "r split h 02 place 0 and place 1",
                     f"r split h {10 ** 300} place 0 and place 1"):
            self.assert_line(f"rule {text}", 0, "line")
        for text in ("split h 1 place 0", "split h 13 " + "place 0 and " * 12 + "place 0", "if h 4 4 then place 0 else place 1",
                     "if h 0 0 then place 0 else place 1", f"place {10 ** 300 + 1}",
                     f"if h {10 ** 300 + 1} 0 then place 0 else place 1",
                     "split a 2 place 0 and split b 2 place 0 and split c 2 place 0 and place 1"):
            self.assert_line(f"rule r {text}", 0, "rule")
            self.assert_line(f"rule if {text}", 0, "name")
        # The names of the rule are looked at ahead of what it is.
        for name in ("then", "place", "and", "else", "A", "abcdefghi", "x\t", "0"):
            self.assert_line(f"rule r if {name} 0 0 then place 0 else place 1", 0, "name")
            self.assert_line(f"rule r split h 2 place 0 and split {name} 2 place 0 and place 1", 0, "name")
            self.assert_line(f"rule r split {name} 2 place 0", 0, "line")

    def test_ands_of_splits(self):
        inner = ("split", "b", 2, (HERE, THERE))
        self.assertEqual(read_paper("rule r split a 2 split b 2 place 0 and place 1 and place 0"), [
            ("rule", "r", ("split", "a", 2, (inner, HERE)))])
        self.assertEqual(read_paper("rule r split a 2 place 0 and split b 2 place 0 and place 1"), [
            ("rule", "r", ("split", "a", 2, (HERE, inner)))])
        self.assert_line("rule r split a 2 split b 3 place 0 and place 1 and place 0", 0, "line")
        self.assertEqual(read_paper("rule r if h 2 0 then if g 3 0 then place 0 else place 1 else place 1")[0][2],
                         ("if", "h", 2, 0, ("if", "g", 3, 0, HERE, THERE), THERE))

    def test_deep_rules(self):
        self.assertEqual(read_paper(paper_text([("rule", "r", rule_of_levels(8))])), [("rule", "r", rule_of_levels(8))])
        for many in (9, 49):
            self.assert_line("rule r " + "split h 2 " * many + "place 0" + " and place 1" * many, 0, "rule")
            self.assert_line("rule r " + "split h 1 " * many + "place 0", 0, "rule")
            self.assert_line("rule r " + "if h 2 0 then " * many + "place 0" + " else place 1" * many, 0, "rule")
            self.assert_line("rule r " + "if h 2 0 then place 0 else " * many + "place 0", 0, "rule")
            self.assert_line("rule r " + "split h 2 " * many + "place 0" + " and place 1" * (many - 1), 0, "line")

    def test_lines_of_chains(self):
        for text in ("chain", "chain c d", "chain c\na\nend", "chain c\na h\nend", "chain c\nend end", "chain c\nend x",
                     "chain c\na h b x\nend of"):
            self.assert_line(text, len(text.split("\n")) - (2 if text.endswith("\nend") else 1), "line")
        # In a chain each other line is a chooser.
        for text in ("deal old 4", "chain d x", "plan p old", "rule r place", "phase x y", "put 0 1", "a end x", "a h end",
                     "a h 0 1", "A h x y", "a h x Y", "a abcdefghi x y", "a h x x\ty"):
            self.assert_line(f"chain c\nb h x y\n{text}\nend", 2, "name")
        self.assert_line("chain c\na h x y\na g x y\nend", 2, "name")
        self.assert_line("chain c\na h x y\nend\nchain c\na h x y\nend", 3, "name")
        self.assert_line("chain end\na h x y\nend", 0, "name")
        six = "".join(f"{chooser} h x y\n" for chooser in "abcdef")
        for rows in ("", "a h x\n", "a h x y x y x y x\n", six + "g h x y\n", "".join(f"{c} {c} x y\n" for c in "abcde")):
            self.assert_line(f"chain c\n{rows}end", rows.count("\n") + 1, "chain")
            self.assert_line(f"chain c\n{rows}end end", rows.count("\n") + 1, "line")
            self.assert_line(f"chain c\n{rows}x\nend", rows.count("\n") + 1, "line")
        self.assertEqual(len(read_paper(f"chain c\n{six}end")[0][2]), 6)

    def test_begins_of_plans(self):
        for text in ("plan", "plan p"):
            self.assert_line(f"{DEALS}{text}\n{PHASE}end", 2, "line")
        for text in ("plan then old", "plan p older", "plan p old end", "plan p p", "plan p 0", "plan P old", "plan p old newer"):
            self.assert_line(f"{DEALS}rule older place 0\n{text}\n{PHASE}end\ndeal newer 4 0+0", 3, "name")
        plan = f"plan p old\n{PHASE}end\n"
        self.assert_line(f"{DEALS}{plan}{plan}", 7, "name")
        self.assert_line(f"plan p old\n{PHASE}end\n{DEALS}", 0, "name")

    def test_lines_of_plans(self):
        begin = f"{DEALS}plan p old new\n"
        for text in ("graves\ngraves", "lag\ngraves", "lag\nlag", f"{PHASE}graves", f"{PHASE}lag", "graves x", "lag 1", "phase",
                     "phase all", "phase any any", "phase any\nlook 0", "phase any\nend", "phase any\nput 0\nend",
                     "phase any\nput", "phase any\nput 0\nlook", "phase any\nput 0\nclear 0", "phase any\nput x", "phase any\nput 00",
                     "phase any\nput -0", "phase any\nput 0\nphase any", "phase any\nphase any", "phase any\nput 0\nput 1",
                     f"{PHASE}look 0", f"{PHASE}put 0", f"{PHASE}clear", f"{PHASE}clear 0\nclear 1", f"{PHASE}fill 0 1\nclear 0",
                     f"{PHASE}fill 0", f"{PHASE}fill 0 1 2", f"{PHASE}fill 0 x", f"{PHASE}move 0 1", f"{PHASE}renew", f"{PHASE}drop",
                     f"{PHASE}end x", "end end", f"{PHASE}clear x", "x", "put 0", "deal d 4 0+0", "plan q old", f"{PHASE}any"):
            self.assert_line(f"{begin}{text}\nend\n", text.count("\n") + 3, "line")
        for text in ("", "graves\n", "lag\n", PHASE * 5, PHASE.replace("put 0", "put 2"), PHASE.replace("put 0", "put 0 0"),
                     PHASE.replace("put 0", "put 0 1 0"), PHASE.replace("look 0", f"look {10 ** 300}"), f"{PHASE}clear 0 0\n",
                     f"{PHASE}fill 0 0\n", f"{PHASE}fill 0 1\nfill 0 1\nfill 0 1\n", f"graves\n{PHASE}clear 0\n", f"{PHASE}drop 0 2\n"):
            self.assert_line(f"{begin}{text}end\nx", text.count("\n") + 3, "plan")
            self.assert_line(f"{begin}{text}\nend x\n", text.count("\n") + 4, "line")
        self.assert_line(f"{DEALS}plan p old new old new\n{PHASE}end", 6, "plan")
        self.assert_line(f"{DEALS}plan p old new old\n{PHASE * 3}end", 12, "plan")
        self.assertEqual(len(read_paper(f"{DEALS}plan p old new old\n{PHASE * 2}end")[2][2][1]), 2)

    def test_ends_amid(self):
        for begin in ("chain c", "chain c\na h x y", f"{DEALS}plan p old", f"{DEALS}plan p old\nlag", f"{DEALS}plan p old\nphase any",
                      f"{DEALS}plan p old\n{PHASE}clear 0", f"{DEALS}plan p old\nphase any\nput 0"):
            for end in ("", "\n", "\n\n  \n"):
                self.assert_line(begin + end, len((begin + end).split("\n")), "line")

    def test_first_wrong_line(self):
        self.assert_line("deal a 0 0+0\nx", 0, "deal")
        self.assert_line("deal a 4 0+0\nx\nrule", 1, "line")
        self.assert_line("chain c\na h x\nx\nend", 2, "line")
        self.assert_line("chain c\na h x\nend\nx", 2, "chain")
        self.assert_line("\n\nrule r place 0\n\nrule r place 0\nx", 4, "name")

    def test_numbers(self):
        most = "9" * 301
        self.assertEqual(read_paper(f"deal d 4 0+{GREAT}")[0][2], (4, ((0, GREAT),)))
        for text in (f"deal d {most} 0+0", f"deal d 4 0+{most}", f"deal d 4 0+0 3-{most}", f"deal d 4 0+0 {most}+0"):
            self.assert_line(text, 0, "deal")
            self.assert_line(text.replace(most, most + "9"), 0, "line")
            self.assert_line(text.replace(most, "9" * 15000), 0, "line")
        self.assert_line(f"rule r place {most}", 0, "rule")
        self.assert_line(f"rule r place {most}9", 0, "line")
        self.assert_line(f"rule r split h {most} place 0", 0, "line")
        self.assert_line(f"{DEALS}plan p old\nphase any\nput {most}\nlook 0\nend", 6, "plan")
        self.assert_line(f"{DEALS}plan p old\nphase any\nput 1{most}\nlook 0\nend", 4, "line")
        self.assertEqual(read_paper(f"rule r place {10 ** 300}")[0][2], ("place", 10 ** 300))

    def test_names(self):
        for name in [name for name in wrong_names() if isinstance(name, str) and not set(name) & set(" \n") and name]:
            for text in (f"deal {name} 4 0+0", f"rule {name} place 0", f"chain {name}\na h x y\nend"):
                self.assert_line(text, 0, "name")
            self.assert_line(f"{DEALS}plan {name} old\n{PHASE}end", 2, "name")
            self.assert_line(f"{DEALS}plan p {name}\n{PHASE}end", 2, "name")
            if name != "end":
                self.assert_line(f"chain c\n{name} h x y\nend", 1, "name")
            self.assert_line(f"chain c\na {name} x y\nend", 1, "name")
            self.assert_line(f"chain c\na h x {name}\nend", 1, "name")

    def test_no_text(self):
        for value in other_values() + [nested(110), ["deal"], 0.5 > 1]:
            if not isinstance(value, str):
                self.assert_line(value, 0, "text")


if __name__ == "__main__":
    unittest.main()
