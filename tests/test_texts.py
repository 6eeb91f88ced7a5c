import copy
import re
import unittest

import samples
from samples import EMPTY, WIDE, chain, document, part, say, tell
from gloss.errors import GlossError, NoEnd, NoRow, TooDeep
from gloss.texts import read, written

TWENTY = "abcdefghijKLMNOP6789"
HEADS = ("say", "tell", "part", "end", "all", "here", "else")
SCOPES = ("all", "part", "here", "else")
# The percent sign is left out, since nothing is promised of it.
SIGNS = [chr(code) for code in range(32, 127) if chr(code) != "%"]

WORD = "[a-zA-Z0-9]{1,20}"
SAY_ROW = re.compile(rf"say ({WORD}(?: {WORD}){{0,199}})")
TELL_ROW = re.compile(
    rf"tell (all|part|here|else) ({WORD}(?: {WORD}){{0,3}})((?: [a-zA-Z0-9]{{0,20}}>[a-zA-Z0-9]{{0,20}}){{0,5}})"
    rf": ({WORD}(?: {WORD}){{0,199}})")


def has_forms(last_word, bends):
    found = [last_word]
    for cut, put in bends:
        if not last_word.endswith(cut):
            return False
        found.append(last_word.removesuffix(cut) + put)
    return len(set(found)) == len(found) and all(1 <= len(word) <= 20 for word in found)


def due_thing(row, number):
    """The say row or telling that the row is, told by other means than the program's; None where it is neither."""
    match = SAY_ROW.fullmatch(row)
    if match:
        return ("say", number, tuple(match[1].split(" ")))
    match = TELL_ROW.fullmatch(row)
    if not match:
        return None
    phrase = tuple(match[2].split(" "))
    bends = tuple(tuple(piece.split(">")) for piece in match[3].split())
    if not has_forms(phrase[-1], bends):
        return None
    return ("tell", number, match[1], phrase, bends, tuple(match[4].split(" ")))


def deepest(doc):
    """The depth at which the deepest part stands, or 0."""
    depth = 0
    found = 0
    for token in samples.tokens(doc):
        depth += {"opening": 1, "closing": -1}.get(token[0], 0)
        found = max(found, depth)
    return found


def words(many, word="a"):
    return " ".join([word] * many)


class Readings(unittest.TestCase):
    def refused(self, error, text):
        with self.assertRaises(GlossError, msg=text) as caught:
            read(text)
        self.assertIs(type(caught.exception), error, text)
        return caught.exception

    def no_row(self, text, row):
        refusal = self.refused(NoRow, text)
        self.assertEqual(refusal.row, row, text)
        self.assertIs(type(refusal.row), int)

    def is_no_row(self, row):
        """The row is refused alone, behind others, in a part, and ahead of others."""
        self.no_row(row + "\nend\nnone", 0)
        if row != "":
            self.no_row(row, 0)
        self.no_row("say a\n" + row, 1)
        self.no_row("say a\ntell all day: b\n" + row + "\nsay b", 2)
        self.no_row("say a\npart\nsay b\n" + row + "\nend", 3)
        self.no_row("part\nend\n" + row + "\n" + row, 2)

    def is_row(self, row, thing):
        """The row is read as the thing with the number 1, and with its number behind others."""
        self.assertEqual(read(row), document(thing), row)
        self.assertEqual(written(document(thing)), row)
        moved = (thing[0], 3) + thing[2:]
        self.assertEqual(read("say a\npart\n" + row + "\nend"), document(say(1, "a"), part(2, moved)), row)

    def as_due(self, row):
        due = due_thing(row, 1)
        if due is not None:
            self.assertEqual(read(row), document(due), row)
        elif row == "part":
            self.refused(NoEnd, row)
        else:
            self.no_row(row, 0)
            self.no_row("say a\n" + row, 1)


class Written(unittest.TestCase):
    def test_no_things(self):
        self.assertEqual(written(EMPTY), "")

    def test_say_rows(self):
        self.assertEqual(written(document(say(1, "a"))), "say a")
        self.assertEqual(written(document(say(7, "the", "last", "Day", "0"))), "say the last Day 0")
        self.assertEqual(written(document(say(1, *[TWENTY] * 200))), "say " + words(200, TWENTY))

    def test_the_telling_of_the_document(self):
        telling = tell(1, "part", ("closing", "day"), (("", "s"), ("day", "date")),
                       ("the", "last", "day", "of", "the", "term"))
        self.assertEqual(written(document(telling)), "tell part closing day >s day>date: the last day of the term")

    def test_each_scope(self):
        for scope in SCOPES:
            self.assertEqual(written(document(tell(1, scope, ("a",), (), ("b", "c")))), f"tell {scope} a: b c")

    def test_bends(self):
        for bends, due in (
                ((), ""), ((("", "s"),), " >s"), ((("y", ""),), " y>"), ((("y", "ies"),), " y>ies"),
                ((("", "s"), ("y", ""), ("ay", "x"), ("day", "date"), ("", "9")), " >s y> ay>x day>date >9")):
            self.assertEqual(written(document(tell(1, "all", ("day",), bends, ("b",)))), f"tell all day{due}: b")
            self.assertEqual(written(document(tell(1, "here", ("a", "B", "c", "day"), bends, ("b", "b")))),
                             f"tell here a B c day{due}: b b")

    def test_parts(self):
        self.assertEqual(written(document(part(1))), "part\nend")
        self.assertEqual(written(document(part(1), part(2))), "part\nend\npart\nend")
        self.assertEqual(written(document(part(1, part(2)))), "part\npart\nend\nend")
        doc = document(say(5, "a"), part(1, say(4, "b"), part(2, say(9, "c")), say(3, "d")), say(6, "e"))
        self.assertEqual(written(doc), "say a\npart\nsay b\npart\nsay c\nend\nsay d\nend\nsay e")

    def test_line_ends(self):
        for doc in list(samples.documents()) + samples.all_documents(4):
            text = written(doc)
            tokens = samples.tokens(doc)
            if not tokens:
                self.assertEqual(text, "")
                continue
            rows = text.split("\n")
            heads = {"opening": "part", "closing": "end"}
            self.assertEqual([row.split(" ")[0] for row in rows], [heads.get(token[0], token[0]) for token in tokens])

    def test_numbers_don_t_matter(self):
        for doc in (WIDE, chain(8)):
            count = len(samples.numbers_of(doc))
            self.assertEqual(written(samples.numbered(doc, samples.mixed(count))), written(doc))
            self.assertEqual(written(samples.numbered(doc, range(10 ** 59, 10 ** 59 + count))), written(doc))

    def test_nothing_is_refused_for_a_part_somewhat_too_deep(self):
        inner = part(9)
        for number in reversed(range(1, 9)):
            inner = part(number, inner)
        self.assertEqual(written(document(inner)), "\n".join(["part"] * 9 + ["end"] * 9))

    def test_nothing_that_is_handed_in_is_changed(self):
        kept = copy.deepcopy(WIDE)
        written(WIDE)
        self.assertEqual(WIDE, kept)


class ThereAndBack(Readings):
    def tuples_throughout(self, value):
        if not isinstance(value, (str, int)):
            self.assertIs(type(value), tuple)
            for inner in value:
                self.tuples_throughout(inner)

    def there_and_back(self, doc):
        due = samples.numbered(doc, range(1, len(samples.numbers_of(doc)) + 1))
        text = written(doc)
        answer = read(text)
        self.assertEqual(answer, due)
        self.tuples_throughout(answer)
        self.assertEqual(written(answer), text)

    def test_all_shapes(self):
        for doc in samples.all_documents(5):
            self.there_and_back(doc)

    def test_other_numbers(self):
        for doc in samples.documents():
            if deepest(doc) <= 8:
                self.there_and_back(doc)

    def test_each_depth(self):
        for depth in range(1, 9):
            self.there_and_back(chain(depth))

    def test_three_hundred_things(self):
        things = [part(3 * k + 1, say(3 * k + 2, "b"), tell(3 * k + 3)) for k in range(100)]
        self.there_and_back(document(*reversed(things)))

    def test_a_text_of_almost_a_hundred_thousand_signs(self):
        doc = document(*[say(k + 1, *[TWENTY] * 200) for k in range(23)])
        self.assertTrue(90000 < len(written(doc)) <= 100000)
        self.there_and_back(doc)

    def test_words_like_heads(self):
        for head in HEADS:
            for other in HEADS:
                self.there_and_back(document(say(1, head), say(2, head, other)))
                self.there_and_back(document(say(2, other, head, "a"), part(1, say(3, head))))
                for scope in SCOPES:
                    self.there_and_back(document(tell(1, scope, (head,), (), (other,))))
                    telling = tell(1, scope, (other, head), (("", "s"), ("", other)), (other, head))
                    self.there_and_back(document(telling))


class ReadDocuments(Readings):
    def test_no_signs(self):
        self.assertEqual(read(""), EMPTY)

    def test_the_telling_of_the_document(self):
        self.is_row("tell part closing day >s day>date: the last day of the term",
                    ("tell", 1, "part", ("closing", "day"), (("", "s"), ("day", "date")),
                     ("the", "last", "day", "of", "the", "term")))

    def test_numbers_in_the_order_of_things(self):
        text = "say a\npart\ntell all b: c\npart\nend\nsay d\nend\npart\nsay e\nend\nsay f"
        first = part(2, tell(3, "all", ("b",), (), ("c",)), part(4), say(5, "d"))
        self.assertEqual(read(text), document(say(1, "a"), first, part(6, say(7, "e")), say(8, "f")))

    def test_say_rows_by_length(self):
        for many in (1, 2, 199, 200):
            self.is_row("say " + words(many), say(1, *["a"] * many))
        for many in (201, 202, 300, 400):
            self.is_no_row("say " + words(many))

    def test_meanings_by_length(self):
        for many in (1, 2, 199, 200):
            self.is_row("tell all b: " + words(many), tell(1, "all", ("b",), (), ("a",) * many))
        for many in (201, 202, 300, 400):
            self.is_no_row("tell all b: " + words(many))

    def test_phrases_by_length(self):
        for many in (1, 2, 3, 4):
            self.is_row(f"tell here {words(many)}: b", tell(1, "here", ("a",) * many, (), ("b",)))
            self.is_row(f"tell here {words(many)} >s: b", tell(1, "here", ("a",) * many, (("", "s"),), ("b",)))
        for many in (5, 6, 200):
            self.is_no_row(f"tell here {words(many)}: b")
            self.is_no_row(f"tell here {words(many)} >s: b")
        for row in ("tell here : b", "tell here: b", "tell here >s: b", "tell here  >s: b", "tell here a>s: b"):
            self.is_no_row(row)

    def test_bends_by_number(self):
        bends = (("", "s"), ("a", ""), ("", "x"), ("", "y"), ("ba", "z"), ("", "w"), ("", "v"))
        for many in range(0, 8):
            row = "tell else ba" + "".join(f" {cut}>{put}" for cut, put in bends[:many]) + ": c"
            if many <= 5:
                self.is_row(row, tell(1, "else", ("ba",), bends[:many], ("c",)))
            else:
                self.is_no_row(row)

    def test_words_by_length(self):
        self.is_row(f"say {TWENTY}", say(1, TWENTY))
        self.is_row(f"tell all {TWENTY} b: {TWENTY}", tell(1, "all", (TWENTY, "b"), (), (TWENTY,)))
        self.is_row(f"tell all {TWENTY}: b", tell(1, "all", (TWENTY,), (), ("b",)))
        long = TWENTY + "x"
        for row in (f"say {long}", f"say a {long}", f"say {long} a", f"tell all {long}: b", f"tell all {long} a: b",
                    f"tell all a {long}: b", f"tell all a: {long}", f"tell all a: b {long} b", f"tell all {long} >: b"):
            self.is_no_row(row)

    def test_bends_by_length(self):
        self.is_row(f"tell all {TWENTY} {TWENTY}>x: b", tell(1, "all", (TWENTY,), ((TWENTY, "x"),), ("b",)))
        self.is_row(f"tell all x x>{TWENTY}: b", tell(1, "all", ("x",), (("x", TWENTY),), ("b",)))
        self.is_row(f"tell all x >{TWENTY[:19]}: b", tell(1, "all", ("x",), (("", TWENTY[:19]),), ("b",)))
        for row in (f"tell all {TWENTY} x{TWENTY}>x: b", f"tell all x x>{TWENTY}x: b", f"tell all x >{TWENTY}: b"):
            self.is_no_row(row)

    def test_each_scope(self):
        for scope in SCOPES:
            self.is_row(f"tell {scope} a: b", tell(1, scope, ("a",), (), ("b",)))


class RowsThatAreNone(Readings):
    def test_no_signs(self):
        self.is_no_row("")

    def test_blanks(self):
        for row in ("say a", "say a b", "tell all a: b", "tell here a b >s: c d", "part", "end"):
            for place in [0, len(row)] + [at for at, sign in enumerate(row) if sign == " "]:
                self.is_no_row(row[:place] + " " + row[place:])
        for row in (" ", "  ", "say", "say ", "say  ", "tell", "tell ", "tell  "):
            self.is_no_row(row)

    def test_other_heads(self):
        for head in ("Say", "SAY", "sa", "says", "sey", "ay", "saya", "a", "all", "part", "end", "", "0", "said"):
            self.is_no_row(f"{head} a")
        for head in ("Tell", "TELL", "tel", "tells", "say", "toll", "told", "part", "end", "all", ""):
            self.is_no_row(f"{head} all a: b")
        for row in ("Part", "PART", "par", "parts", "End", "END", "en", "ends", "begin", "all", "a", "0"):
            self.is_no_row(row)

    def test_other_scopes(self):
        for scope in ("All", "ALL", "al", "alls", "Part", "parts", "her", "Here", "elsewhere", "Else", "say", "tell",
                      "end", "a", "0", "", ":", "all:", "all>"):
            self.is_no_row(f"tell {scope} a: b")
        self.is_no_row("tell a: b")
        self.is_no_row("tell : b")

    def test_colons(self):
        for row in ("tell all a b", "tell all a", "tell all", "tell all a:b", "tell all a:", "tell all a: ",
                    "tell all a : b", "tell all a:: b", "tell all a: : b", "tell all a: b: c", "tell all a: b:",
                    "tell all a: :", "tell all a: b :", "tell all: a: b", "tell: all a b", "tell all a:  b",
                    "tell all a >s b", "tell all a >s:b", "tell all a >s:", "tell all a >s: ", "tell all a;  b",
                    "tell all a >s : b", "say a: b", "say a:", "say: a", ": ", ":", "tell: ", "tell all a:b: c"):
            self.is_no_row(row)

    def test_words_behind_bends(self):
        for row in ("tell all a >s b: c", "tell all a >s b >x: c", "tell all >s a: c", "tell all a >s >x b: c",
                    "tell all a >s a: c"):
            self.is_no_row(row)

    def test_bends_with_no_or_two_signs_between(self):
        for row in ("tell all day y>>s: b", "tell all day >y>s: b", "tell all day y>s>: b", "tell all day >>: b",
                    "tell all day y>s>t: b", "tell all day >s y>>s: b", "tell all day y<s: b", "tell all day y=s: b",
                    "tell all day y > s: b", "tell all day y> s: x>: b"):
            self.is_no_row(row)

    def test_forms_that_are_refused(self):
        for row in ("tell all day >: b", "tell all day y>y: b", "tell all day day>: b", "tell all day x>s: b",
                    "tell all day >s >s: b", "tell all day >s y>ys: b", "tell all day >s >x day>day: b",
                    "tell all day aday>s: b", "tell all day Y>s: b", "tell all closing day gday>s: b",
                    "tell all a day day>: b", f"tell all day >{TWENTY[:18]}: b"):
            self.is_no_row(row)
        self.is_row("tell all day y>Y: b", tell(1, "all", ("day",), (("y", "Y"),), ("b",)))
        self.is_row("tell all day day>d: b", tell(1, "all", ("day",), (("day", "d"),), ("b",)))
        self.is_row(f"tell all day >{TWENTY[:17]}: b", tell(1, "all", ("day",), (("", TWENTY[:17]),), ("b",)))

    def test_something_behind_part_or_end(self):
        for behind in (" ", " a", "a", ":", " part", " end", ": a", "  ", "."):
            self.is_no_row("part" + behind)
            self.is_no_row("end" + behind)
            self.no_row("part\nend" + behind, 1)

    def test_each_sign_in_each_place(self):
        for row in ("say a bc", "tell part big day >s y>te: the Z9", "tell all x: y", "part"):
            for place in range(0, len(row) + 1):
                self.as_due(row[:place] + row[place + 1:])
                for sign in SIGNS:
                    self.as_due(row[:place] + sign + row[place:])
                    self.as_due(row[:place] + sign + row[place + 1:])

    def test_pieces_in_all_orders(self):
        pieces = ("say", "tell", "all", "day", ">s", ":", "", "y>", "day:", "part")
        rows = [""]
        for many in range(0, 5):
            rows = [row + " " + piece for row in rows for piece in pieces]
            for row in rows:
                if row != " ":
                    self.as_due(row[1:])

    def test_a_sign_of_each_kind_alone(self):
        for sign in SIGNS:
            self.is_no_row(sign)
            self.is_no_row(sign * 2)


class Parts(Readings):
    def test_end_where_no_part_is_begun(self):
        self.no_row("end", 0)
        self.no_row("say a\nend", 1)
        self.no_row("part\nend\nend", 2)
        self.no_row("part\npart\nend\nsay a\nend\nend\nsay a", 5)
        self.no_row("end\npart\nend", 0)
        self.no_row("part\nend\nend\npart", 2)

    def test_a_part_that_is_not_ended(self):
        for text in ("part", "part\npart", "part\npart\nend", "say a\npart\nsay b", "part\nend\npart",
                     "part\npart\nend\nend\npart\nsay a"):
            self.refused(NoEnd, text)
        for ended in range(0, 8):
            self.refused(NoEnd, "\n".join(["part"] * 8 + ["end"] * ended))

    def test_depths(self):
        for depth in range(1, 9):
            doc = part(depth)
            for number in reversed(range(1, depth)):
                doc = part(number, doc)
            self.assertEqual(read("\n".join(["part"] * depth + ["end"] * depth)), document(doc))
        for depth in (9, 10, 11, 50):
            self.refused(TooDeep, "\n".join(["part"] * depth + ["end"] * depth))
            self.refused(TooDeep, "\n".join(["part"] * depth))

    def test_depth_and_not_the_number_of_parts_is_asked(self):
        text = "\n".join(["part\nend"] * 20 + ["part"] * 8 + ["end\npart"] * 20 + ["end"] * 8)
        self.assertEqual(written(read(text)), text)
        self.refused(TooDeep, "\n".join(["part"] * 8 + ["end\npart"] * 20 + ["part"]))
        self.refused(TooDeep, "\n".join(["part"] * 8 + ["end"] * 8 + ["part"] * 9))

    def test_say_rows_and_tellings_in_a_part_at_depth_eight(self):
        text = "\n".join(["part"] * 8 + ["say a", "tell all b: c"] + ["end"] * 8)
        self.assertEqual(written(read(text)), text)

    def test_a_line_end_at_the_end(self):
        self.no_row("\n", 0)
        self.no_row("say a\n", 1)
        self.no_row("part\nend\n", 2)
        self.no_row("part\n", 1)
        self.no_row("\nsay a", 0)
        self.no_row("say a\n\nsay b", 1)
        self.no_row("say a\n\n", 1)


class TwoFaults(Readings):
    def test_two_rows_that_are_none(self):
        for first in ("", "nothing", "say", "tell all a: ", "part a"):
            for second in ("", "x", "end x"):
                self.no_row(f"say a\n{first}\nsay b\n{second}", 1)

    def test_a_row_that_is_none_and_an_end_too_many(self):
        self.no_row("say a\nend\nnothing", 1)
        self.no_row("say a\nnothing\nend", 1)

    def test_too_deep_and_a_row_that_is_none(self):
        deep = "\n".join(["part"] * 9)
        self.refused(TooDeep, deep + "\nnothing")
        self.refused(TooDeep, deep + "\n")
        self.no_row("nothing\n" + deep, 0)
        self.no_row("\n".join(["part"] * 8) + "\nnothing\npart", 8)
        self.no_row("\n".join(["part"] * 8) + "\npart x", 8)
        self.refused(TooDeep, "\n".join(["part"] * 9 + ["end"] * 10))
        self.no_row("\n".join(["part"] * 8 + ["end"] * 9 + ["part"] * 9), 16)

    def test_not_ended_and_another_fault(self):
        self.no_row("part\nnothing", 1)
        self.no_row("nothing\npart", 0)
        self.no_row("part\nend\nend\npart", 2)
        self.refused(TooDeep, "\n".join(["part"] * 9))


class BehindARefusal(Readings):
    TEXT = "say a\npart\ntell all b >s: c\npart\nend\nend\nsay d"

    def answers(self):
        return read(self.TEXT), read(""), written(WIDE), written(EMPTY), read(written(WIDE))

    def test_the_same_questions_are_answered_as_ahead_of_it(self):
        ahead = self.answers()
        for again in range(2):
            for error, text in (
                    (NoRow, self.TEXT + "\n"), (NoRow, self.TEXT + "\nend"), (NoEnd, "part\n" + self.TEXT),
                    (NoRow, "part\ntell all b >: c\nend"), (TooDeep, "\n".join(["part"] * 9))):
                self.refused(error, text)
                self.assertEqual(self.answers(), ahead)


if __name__ == "__main__":
    unittest.main()
