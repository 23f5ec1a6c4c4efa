import re
import unittest

from tests.samples import (ALL_WORLDS, DO_P, DO_Q, DO_R, IF_A, IF_B, IF_C, LEAVES, TREES, hold, mixed, no, nots, pick,
                           row, told_run, told_tree, trees_of, wide)
from ticktrees.errors import NoText
from ticktrees.texts import picture, read_row, read_tree, row_text, tree_text
from ticktrees.ticking import run
from ticktrees.trees import deep, size, ways

MANY = row(IF_A, no(DO_P), pick(IF_B, hold(DO_Q, DO_R), no(row(IF_C, DO_P))))
MANY_TEXT = "row(if a, not(do p), pick(if b, hold(do q, do r), not(row(if c, do p))))"
FULL = row(wide(6), no(wide(5)), pick(IF_A, IF_B), DO_P, DO_Q, DO_R, DO_P)
SIGNS = [" ", "\n", "(", ")", ",", ", ", "  ", ".", "~", "!", "_", "0", "1", "A", "a", "b", "c", "d", "f", "g", "p", "q",
         "r", "x", "if", "if a", "do p", "not", "not(", "row", "pick(", "hold", "'", "\"", "[", "-"]


def levels_shape(levels):
    """What the texts of trees on up to so many levels match."""
    shape = "(?:if [abc]|do [pqr])"
    for number in range(levels - 1):
        shape = rf"(?:if [abc]|do [pqr]|not\({shape}\)|(?:row|pick|hold)\({shape}(?:, {shape})+\))"
    return re.compile(shape + r"\Z")


TREE_SHAPE = levels_shape(6)
ROW_SHAPE = re.compile(r"(?:a?b?c? [dfg][dfg][dfg] [pqr]* [dfg]\n)*\Z")


def is_tree_text(text):
    """Whether a tree has this text, by its shape and its words."""
    return bool(TREE_SHAPE.match(text)) and len(re.findall("[a-z]+(?= [a-z]|[(])", text)) <= 20


def is_row_text(text):
    return bool(ROW_SHAPE.match(text))


def spoilt_texts(text):
    """The text with a sign or a piece less, more, twice, or another one, at any one place."""
    for at in range(len(text) + 1):
        ahead, behind = text[:at], text[at:]
        yield ahead
        yield behind
        yield ahead + behind[1:]
        yield ahead + behind[:1] + behind
        yield ahead + behind[1:2] + behind[:1] + behind[2:]
        yield ahead + behind[:1].upper() + behind[1:]
        for sign in SIGNS:
            yield ahead + sign + behind
            yield ahead + sign + behind[1:]


class TreeText(unittest.TestCase):
    def test_each_kind_of_part(self):
        for tree, text in ((IF_A, "if a"), (IF_B, "if b"), (IF_C, "if c"), (DO_P, "do p"), (DO_Q, "do q"), (DO_R, "do r"),
                           (no(IF_A), "not(if a)"), (no(no(DO_R)), "not(not(do r))"),
                           (row(IF_A, DO_P), "row(if a, do p)"), (pick(IF_A, DO_P, IF_A), "pick(if a, do p, if a)"),
                           (hold(DO_P, DO_Q), "hold(do p, do q)"), (row(row(IF_A, IF_B), IF_C), "row(row(if a, if b), if c)"),
                           (hold(no(pick(DO_P, DO_Q)), DO_R), "hold(not(pick(do p, do q)), do r)"), (MANY, MANY_TEXT)):
            for again in range(2):
                self.assertEqual(tree_text(tree), text)
                self.assertEqual(read_tree(text), tree)

    def test_trees_and_their_texts_tell_one_another(self):
        trees = trees_of(1) + trees_of(2) + trees_of(3) + trees_of(4) + list(LEAVES + TREES)
        trees += [wide(20), no(wide(19)), nots(5, IF_A), nots(5, DO_R), FULL]
        texts = set()
        for tree in trees:
            text = tree_text(tree)
            self.assertTrue(is_tree_text(text))
            self.assertEqual(read_tree(text), tree)
            self.assertEqual(tree_text(read_tree(text)), text)
            texts.add(text)
        self.assertEqual(len(texts), len(set(trees)))

    def test_somewhat_beyond_the_limits(self):
        self.assertEqual(tree_text(wide(22)), "row(" + ", ".join(["if a"] * 21) + ")")
        self.assertEqual(tree_text(nots(8, IF_A)), "not(" * 8 + "if a" + ")" * 8)


class ReadTree(unittest.TestCase):
    def refused(self, text):
        self.assertFalse(is_tree_text(text), text)
        for again in range(2):
            with self.subTest(text), self.assertRaises(NoText):
                read_tree(text)

    def test_blanks_too_many_or_too_few(self):
        for text in ("ifa", "if  a", " if a", "if a ", "do  p", "dop", "not (if a)", "not( if a)", "not(if a )", "not(if a) ",
                     "row(if a,do p)", "row(if a,  do p)", "row(if a , do p)", "row( if a, do p)", "row(if a, do p )",
                     "row (if a, do p)", "r ow(if a, do p)", "hold(do p, do q) "):
            self.refused(text)

    def test_letters_that_are_none_of_it(self):
        for text in ("if", "if ", "do", "do ", "if d", "if p", "do a", "do s", "if ab", "do pq", "if A", "IF a", "If a", "Do p",
                     "a", "p", "if(a)", "do(p)", "iff a", "nots(if a)", "nor(if a)", "Row(if a, do p)", "rows(if a, do p)",
                     "picks(if a, do p)", "holds(do p, do q)", "and(if a, if b)", "if a b", "if 1", "row(a, p)"):
            self.refused(text)

    def test_brackets_and_commas(self):
        for text in ("not(if a", "not if a)", "not if a", "not(if a))", "not((if a))", "(if a)", "(not(if a))", "()", "(", ")",
                     "not()", "not", "not(if a, if b)", "not(if a,)", "row()", "row", "row(", "row(if a)", "row(if a, )",
                     "row(if a,)", "row(, if a)", "row(if a, if b", "row(if a, if b))", "row(if a, if b,)", "row(if a if b)",
                     "row(if a, , if b)", "row if a, if b", "row[if a, if b]", "pick(if a)", "hold(do p)", "if a, if b",
                     "row((if a, if b))", "row(if a; if b)", ", ", "pick(row(if a, if b), hold(do p)"):
            self.refused(text)

    def test_line_feeds(self):
        for text in ("", "\n", "if a\n", "\nif a", "if\na", "row(if a,\nif b)", "row(if a, \nif b)", "row(if a, if b)\n", "if a\n\n",
                     "if a\nif b", "not(\nif a)"):
            self.refused(text)

    def test_20_parts_and_21(self):
        self.assertEqual(read_tree("row(" + ", ".join(["if a"] * 19) + ")"), wide(20))
        self.refused("row(" + ", ".join(["if a"] * 20) + ")")
        self.assertEqual(size(FULL), 20)
        self.assertEqual(read_tree(tree_text(FULL)), FULL)
        self.refused("not(" + tree_text(FULL) + ")")
        self.refused(tree_text(FULL).replace("do q", "not(do q)"))
        self.refused(tree_text(FULL)[:-1] + ", do r)")
        self.refused("pick(" + ", ".join(["do p"] * 3000) + ")")

    def test_6_levels_and_7(self):
        self.assertEqual(read_tree("not(" * 5 + "do q" + ")" * 5), nots(5, DO_Q))
        for many in (6, 7, 20, 5000):
            self.refused("not(" * many + "do q" + ")" * many)
        for word in ("row", "pick", "hold"):
            tree = IF_A
            for levels in range(2, 9):
                tree = (word, (DO_P, tree)) if levels % 2 else (word, (tree, DO_P))
                if levels <= 6:
                    self.assertEqual(deep(tree), levels)
                    self.assertEqual(read_tree(tree_text(tree)), tree)
                else:
                    self.refused(tree_text(tree))
            self.refused((word + "(") * 5000)

    def test_texts_spoilt_at_any_place(self):
        asked = {True: 0, False: 0}
        for tree in TREES + (MANY, wide(20), nots(5, IF_A)):
            for text in spoilt_texts(tree_text(tree)):
                good = is_tree_text(text)
                asked[good] += 1
                if good:
                    self.assertTrue(told_tree(read_tree(text)))
                    self.assertEqual(tree_text(read_tree(text)), text)
                else:
                    with self.assertRaises(NoText):
                        read_tree(text)
        self.assertGreater(min(asked.values()), 500)


class RowText(unittest.TestCase):
    def test_rows(self):
        for told, text in (((), ""), (((("a", "ddd"), "p", "d"),), "a ddd p d\n"), (((("", "dfg"), "pqr", "g"),), " dfg pqr g\n"),
                           (((("abc", "fff"), "", "f"),), "abc fff  f\n"), (((("", "ggg"), "", "d"),), " ggg  d\n"),
                           (((("ac", "dgd"), "pq", "g"), (("", "ddd"), "q", "d"), (("b", "ddd"), "", "f")),
                            "ac dgd pq g\n ddd q d\nb ddd  f\n"),
                           (((("b", "dfd"), "rqqpr", "f"),), "b dfd rqqpr f\n")):
            for again in range(2):
                self.assertEqual(row_text(told), text)
                self.assertEqual(read_row(text), told)

    def test_rows_and_their_texts_tell_one_another(self):
        for tree in TREES + (wide(20), hold(*(DO_P, DO_Q) * 9)):
            for some in (ALL_WORLDS, mixed(ALL_WORLDS, 7), mixed(ALL_WORLDS, 1), ()):
                told = told_run(tree, some)
                text = row_text(told)
                self.assertTrue(is_row_text(text))
                self.assertEqual(len(text.split("\n")), len(some) + 1)
                self.assertEqual(read_row(text), told)
                self.assertEqual(row_text(read_row(text)), text)
                self.assertEqual(read_row(text), run(tree, some))

    def test_kinds(self):
        self.assertIs(type(read_row("")), tuple)
        told = read_row("a ddd p d\n")
        self.assertEqual((type(told), type(told[0]), type(told[0][0])), (tuple, tuple, tuple))

    def refused(self, text):
        self.assertFalse(is_row_text(text), text)
        for again in range(2):
            with self.subTest(text), self.assertRaises(NoText):
                read_row(text)

    def test_blanks_too_many_or_too_few(self):
        for text in ("addd p d\n", "a dddp d\n", "a ddd pd\n", "a  ddd p d\n", "a ddd  p d\n", "a ddd p  d\n", "  ddd p d\n",
                     "a ddd p d \n", " a ddd p d\n", "ddd p d\n", "a ddd d\n", "a ddd   d\n", "a ddd p \n", "a ddd p\n", "   \n",
                     " ", "a ddd p d\n ", "a ddd p d\n \n", "a b ddd p d\n", "a d d d p d\n", "a ddd p q d\n"):
            self.refused(text)

    def test_line_feeds(self):
        for text in ("\n", "\n\n", "a ddd p d", "a ddd p d\n\n", "\na ddd p d\n", "a ddd p d\n\na ddd p d\n", "a ddd p d\na ddd p d",
                     "a ddd p da ddd p d\n", "a\nddd p d\n", "a ddd\np d\n", "a ddd p\nd\n", "a ddd p \nd\n"):
            self.refused(text)

    def test_letters_that_are_none_of_it(self):
        for text in ("ba ddd p d\n", "aa ddd p d\n", "d ddd p d\n", "p ddd p d\n", "A ddd p d\n", "acb ddd p d\n", "a dd p d\n",
                     "a dddd p d\n", "a  p d\n", "a ddx p d\n", "a DDD p d\n", "a ddd a d\n", "a ddd ps d\n", "a ddd P d\n",
                     "a ddd p, d\n", "a ddd p e\n", "a ddd p dd\n", "a ddd p df\n", "a ddd p D\n", "a ddd p p\n", "a ddd p (d)\n",
                     "a,ddd,p,d\n", "a ddd p d\nb ddd x d\n", "x ddd p d\nb ddd p d\n", "if a", "x"):
            self.refused(text)

    def test_texts_spoilt_at_any_place(self):
        asked = {True: 0, False: 0}
        for tree in TREES:
            for text in spoilt_texts(row_text(told_run(tree, mixed(ALL_WORLDS, 3)))):
                good = is_row_text(text)
                asked[good] += 1
                if good:
                    self.assertEqual(row_text(read_row(text)), text)
                else:
                    with self.assertRaises(NoText):
                        read_row(text)
        self.assertGreater(min(asked.values()), 500)


class Picture(unittest.TestCase):
    def test_leaves(self):
        for leaf in LEAVES:
            self.assertEqual(picture(leaf), f"{leaf[0]} {leaf[1]}\n")

    def test_two_blanks_for_each_level(self):
        self.assertEqual(picture(no(IF_A)), "not\n  if a\n")
        self.assertEqual(picture(hold(DO_P, DO_Q)), "hold\n  do p\n  do q\n")
        self.assertEqual(picture(MANY), """\
row
  if a
  not
    do p
  pick
    if b
    hold
      do q
      do r
    not
      row
        if c
        do p
""")
        self.assertEqual(picture(nots(5, IF_C)), "".join("  " * level + "not\n" for level in range(5)) + " " * 10 + "if c\n")

    def test_a_line_for_each_part(self):
        for tree in trees_of(4) + list(TREES) + [wide(20), nots(5, DO_P), wide(23)]:
            lines = picture(tree).split("\n")
            self.assertEqual(lines.pop(), "")
            self.assertEqual(len(lines), size(tree))
            self.assertEqual([len(line) - len(line.lstrip()) for line in lines], [2 * len(way) for way in ways(tree)])
            self.assertEqual([line.strip() for line in lines], re.findall("(?:if|do) [a-z]|[a-z]+(?=[(])", tree_text(tree)))
            self.assertEqual(picture(tree), "\n".join(lines) + "\n")


if __name__ == "__main__":
    unittest.main()
