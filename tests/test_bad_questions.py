"""Points 40 to 42: BadQuestion with its line, column and reason."""

import unittest

from shedbook.errors import Malformed, ShedError
from shedbook.questions import BadQuestion, read_question, write_question
from tests.asking import plain_text, random_question
from tests.helpers import seeded, spoiled_texts

REASONS = ("unterminated word", "invalid word", "invalid number", "invalid token", "missing token", "extra token",
           "unknown line", "missing line", "kind expected", "too many kinds", "number expected", "invalid span",
           "invalid width", "invalid column", "invalid count", "name expected", "reserved word", "too many names",
           "sum expected", "too many sums", "direction expected", "too deep", "operand expected",
           "relation expected", "too many tests", "bracket expected")
RESERVED = ("and", "or", "not", "is", "differs", "below", "above", "by")
TEST = "a is 1"


def fault_of(text):
    """Return the line, the column and the reason, or None if the text is a question."""
    try:
        read_question(text)
    except BadQuestion as fault:
        return (fault.line, fault.column, fault.reason)
    return None


class Faults(unittest.TestCase):
    def bad(self, marked, reason, before="", behind=""):
        """Check the fault of a text; the sign ^ in it, which is taken out, stands where the fault is."""
        marked = before + marked + behind
        self.assertEqual(marked.count("^"), 1)
        start = marked[:marked.index("^")]
        line = start.count("\n") + 1
        column = len(start) - (start.rfind("\n") + 1) + 1
        self.assertEqual(fault_of(marked.replace("^", "")), (line, column, reason), marked)

    def bad_source(self, marked, reason):
        self.bad(marked, reason)
        self.bad(marked, reason, behind="\nrows a")
        self.bad(marked, reason, behind='\n"\n1a')

    def bad_where(self, marked, reason):
        self.bad("where " + marked, reason, before="of sale\n")
        self.bad("  where   " + marked, reason, before="of sale\n", behind="\nrows a\nfirst 1")

    def bad_shape(self, marked, reason):
        self.bad(marked, reason, before="of sale\n", behind="\norder x")
        self.bad(marked, reason, before="pairs a b 5\nwhere a is 1\n")

    def bad_behind(self, marked, reason):
        self.bad(marked, reason, before="of sale\nrows a b\n")
        self.bad(marked, reason, before="of sale\nwhere a is 1\ngroups by 5 : sum a\n")

    def good(self, text):
        self.assertIsNone(fault_of(text), text)


class TheError(Faults):
    def test_class(self):
        self.assertTrue(issubclass(BadQuestion, Malformed))
        self.assertTrue(issubclass(BadQuestion, ShedError))
        fault = BadQuestion(3, 14, "too deep")
        self.assertEqual((fault.line, fault.column, fault.reason), (3, 14, "too deep"))

    def test_raised(self):
        for text in ("", "of", "of sale\nrows 1"):
            with self.assertRaises(BadQuestion) as caught:
                read_question(text)
            self.assertIs(caught.exception.__class__, BadQuestion)
            self.assertEqual([caught.exception.line.__class__, caught.exception.column.__class__], [int, int])


class Lines(Faults):
    def test_empty(self):
        self.bad("^", "unknown line")
        self.bad("^   ", "unknown line")
        self.bad("^\nof sale\nrows a", "unknown line")
        self.bad("^\n", "unknown line")

    def test_newline_at_end(self):
        self.bad("of sale\n^", "unknown line")
        self.bad("of sale\n^  ", "unknown line")
        self.bad("of sale\nwhere a is 1\n^", "unknown line")
        for text in ("rows a", "rows a\norder 0 up", "rows a\nfirst 5", "rows a\norder 0 up\nfirst 5"):
            self.good("of sale\n" + text)
            self.bad("of sale\n" + text + "\n^", "unknown line")
            self.bad("of sale\n" + text + "\n^ \n", "unknown line")

    def test_missing_line(self):
        self.assertEqual(fault_of("of sale"), (2, 1, "missing line"))
        self.assertEqual(fault_of("   of sale   "), (2, 1, "missing line"))
        self.assertEqual(fault_of("chains a b 5"), (2, 1, "missing line"))
        self.assertEqual(fault_of("of sale\nwhere a is 1"), (3, 1, "missing line"))

    def test_unknown_first_words(self):
        for text in ("a", "sale", "that.of", '"of"', "1", "(", ")", ":", "-5", "all", "offs", "o", "and", "by"):
            self.bad("^" + text + " sale\nrows a", "unknown line")
            self.bad("  ^" + text + "\nrows a", "unknown line")
            for before in ("of sale\n", "of sale\nwhere a is 1\n", "of sale\nrows a\n", "of sale\nrows a\norder 0 up\n",
                           "of sale\nrows a\nfirst 5\n", "of sale\nrows a\norder 0 up\nfirst 5\n"):
                self.bad(" ^" + text, "unknown line", before=before)

    def test_order_of_lines(self):
        """Every text of up to six lines with these first words."""
        texts = {1: "of sale", 2: "where a is 1", 3: "rows a", 4: "order 0 up", 5: "first 5"}
        follows = {0: [1], 1: [2, 3], 2: [3], 3: [4, 5], 4: [5], 5: []}
        accepted = 0
        todo = [[]]
        while todo:
            told = todo.pop()
            text = "\n".join([texts[k] for k in told])
            if told:
                latest = told[-1]
                if latest < 3:
                    self.assertEqual(fault_of(text), (len(told) + 1, 1, "missing line"))
                else:
                    accepted += 1
                    self.good(text)
            for k in texts:
                if k in follows[told[-1] if told else 0]:
                    todo.append(told + [k])
                else:
                    wanted = (len(told) + 1, 1, "unknown line")
                    self.assertEqual(fault_of("\n".join([texts[j] for j in told + [k]])), wanted)
                    self.assertEqual(fault_of("\n".join([texts[j] for j in told + [k, 3]])), wanted)
        self.assertEqual(accepted, 8)

    def test_other_words_of_the_same_lines(self):
        for text in ("of a", "pairs a b 1", "chains a b 1"):
            self.bad("of sale\n^" + text, "unknown line")
            self.bad("of sale\nrows a\n^" + text, "unknown line")
        for text in ("rows a", "groups : count"):
            self.bad("^" + text, "unknown line")
            self.bad("of sale\ngroups a : count\n^" + text, "unknown line")
            self.bad("of sale\nrows a\n^" + text, "unknown line")

    def test_lines_are_read_in_order(self):
        self.bad('of ^5\nwhere "', "kind expected")
        self.bad('of sale\nrows ^5\norder "', "name expected")
        self.bad("of sale ^x\n", "extra token")
        self.bad('of sale\nwhere a is 1\n^order 0 up\n"', "unknown line")


class TokenFaults(Faults):
    def test_unterminated_word(self):
        self.bad_where('a is ^"ann', "unterminated word")
        self.bad_where('a is ^"', "unterminated word")
        self.bad_where('"b" is ^"ann and b is 1  ', "unterminated word")
        self.bad_where('a"b"^"c', "unterminated word")
        self.bad('of ^"sale\nrows "a"', "unterminated word")

    def test_invalid_word(self):
        for text in ("", " ", "Ann", "a b", " ann", "ann ", "a1", "1", "abcdefghijklm", "a-b", "(", "that.ann", "a_b",
                     "a,b", "(a)", ":"):
            self.bad_where('a is ^"' + text + '"', "invalid word")
            self.bad_where('a is ^"' + text + '"x', "invalid word")
            self.bad('^"' + text + '"', "invalid word")
        self.good('of sale\nwhere a is "abcdefghijkl"\nrows a')

    def test_invalid_number(self):
        for text in ("-", "--1", "-0", "00", "01", "-01", "1000000", "-1000000", "1a", "1.5", "1-", "1_000", "5-3", "0x1",
                     "-a", "1" * 1500, "9999999", "1+1", "1,5"):
            self.bad_where("a is ^" + text, "invalid number")
            self.bad("of sale\nrows a\nfirst ^" + text, "invalid number")
            self.bad("^" + text, "invalid number")
        self.good("of sale\nwhere -999999 is 999999 or 0 is 0\nrows a")

    def test_invalid_token(self):
        for text in ("A", "aB", "a1", "abcdefghijklm", "that.", "that.A", "that.a1", "that.abcdefghijklm", "that.1",
                     "this.a", "that.that.a", "That.a", ".a", "a.b", "a_b", "+1", "a=b", "a,b", "!", "~", "=", "<", "a-b",
                     "{}", "'a'", "thata.b", "*", "#"):
            self.bad_where("a is ^" + text, "invalid token")
            self.bad_where("a is(^" + text + ")", "invalid token")
            self.bad_where('"a"^' + text + ":", "invalid token")
            self.bad("^" + text, "invalid token")
            self.bad("of sale\nrows ^" + text + " b", "invalid token")
        self.good("of sale\nrows that.abcdefghijkl abcdefghijkl that.that that")

    def test_tokens_end_at_signs(self):
        self.bad('of ^A"b', "invalid token")
        self.bad('of a^"b', "unterminated word")
        self.bad("of a:^B", "invalid token")
        self.bad("of (^1x)2y", "invalid number")
        self.bad('of ^that."a"', "invalid token")
        self.bad('of "a"^"A""', "invalid word")
        self.bad('of "a""b"^"', "unterminated word")

    def test_first_from_the_left(self):
        self.bad('of ^A 1x "B" "', "invalid token")
        self.bad('of ^1x A "B" "', "invalid number")
        self.bad('of ^"B" 1x A "', "invalid word")
        self.bad('of ^" 1x A B', "unterminated word")

    def test_before_all_other_faults_of_the_line(self):
        for marked, reason in [('xyz ^1x', "invalid number"), ('of sale ^"', "unterminated word"),
                               ('of 5 6 7 ^A', "invalid token"), ('pairs that.a ^01', "invalid number"),
                               ('( ^""', "invalid word"), (': : : ^"A"', "invalid word")]:
            self.bad(marked, reason)
        self.bad("xyz of ^-0", "invalid number")
        self.bad("of sale\nrows a b c d e f g h ^A", "invalid token")
        self.bad("of sale\nwhere is is is ^\"", "unterminated word")
        self.bad("of sale\nrows a\norder 99 99 ^1000000", "invalid number")
        self.bad("of sale\nrows a\nrows a ^Z", "invalid token")
        self.bad("of sale\nrows a\nfirst 5\nx ^Z", "invalid token")


class SourceFaults(Faults):
    def test_kinds(self):
        for text in ("5", "-1", '"sale"', "(", ")", ":", "that.sale"):
            self.bad_source("of ^" + text, "kind expected")
            self.bad_source("of ^" + text + " sale", "kind expected")
            self.bad_source("pairs ^" + text + " b 1", "kind expected")
            self.bad_source("pairs a ^" + text + " 1", "kind expected")
            self.bad_source("chains ^" + text + " b 1", "kind expected")
            self.bad_source("chains a ^" + text + " b 1", "kind expected")

    def test_missing(self):
        for text in ("of", "pairs", "pairs a", "pairs a b", "chains", "chains a", "chains a b", "chains a b c",
                     "chains a b c d"):
            self.bad_source(text + "^", "missing token")
            self.bad_source(text + "^   ", "missing token")
            self.bad_source("  " + text.replace(" ", "  ") + "^ ", "missing token")
        for text in ("pairs q", "pairs q q", "chains q", "chains a  zq"):
            self.bad_source(text + "^  ", "missing token")

    def test_extra(self):
        for text in ("of a", "pairs a b 1", "chains a b 1", "chains a b c 1", "chains a b c d 1"):
            for more in ("x", "5", "(", ")", ":", '"x"', "that.x", "and", "rows x"):
                self.bad_source(text + " ^" + more, "extra token")
                self.bad_source(text + "   ^" + more + " y z", "extra token")

    def test_spans(self):
        for source in ("pairs a b", "chains a b", "chains a b c", "chains a b c d"):
            for text in ("0", "1", "9999"):
                self.good(source + " " + text + "\nrows a")
            for text in ("-1", "-999999", "10000", "999999"):
                self.bad_source(source + " ^" + text, "invalid span")
                self.bad_source(source + " ^" + text + " x", "invalid span")
            for text in ('"a"', "(", ")", ":", "that.a"):
                self.bad_source(source + " ^" + text, "number expected")
        self.bad_source("pairs a b ^c", "number expected")
        self.bad_source("pairs a b ^c 5", "number expected")

    def test_too_many_kinds(self):
        self.bad_source("chains a b c d ^e", "too many kinds")
        self.bad_source("chains a b c d ^e 5", "too many kinds")
        self.bad_source("chains a b c d ^and f g", "too many kinds")

    def test_later_kinds(self):
        self.bad_source("chains a b 5 ^c", "extra token")
        self.bad_source("chains a b c ^that.d 5", "number expected")
        self.bad_source("chains a b ^: c 5", "number expected")


class ShapeFaults(Faults):
    def test_names_of_rows(self):
        for text in ("5", '"a"', "(", ")", ":"):
            self.bad_shape("rows ^" + text, "name expected")
            self.bad_shape("rows a that.b ^" + text + " c", "name expected")
            self.bad_shape("rows a b c d e ^" + text, "name expected")
        for text in RESERVED:
            for start in ("", "that."):
                self.bad_shape("rows ^" + start + text, "reserved word")
                self.bad_shape("rows a b c d e ^" + start + text, "reserved word")
        self.bad_shape("rows^", "missing token")
        self.bad_shape(" rows^  ", "missing token")

    def test_too_many_names_of_rows(self):
        for text in ("g", "5", '"a"', "(", ")", ":", "that.a", "and", "g h"):
            self.bad_shape("rows a b c d e f ^" + text, "too many names")

    def test_names_of_groups(self):
        for text in ("5", '"a"', "(", ")"):
            for start in ("groups ", "groups by 5 ", "groups a ", "groups by 5 a b c "):
                self.bad_shape(start + "^" + text, "name expected")
                self.bad_shape(start + "^" + text + " : count", "name expected")
        for text in RESERVED:
            self.bad_shape("groups a ^" + text + " : count", "reserved word")
            self.bad_shape("groups by 5 ^" + text + " : count", "reserved word")
            self.bad_shape("groups ^that." + text + " : count", "reserved word")
            self.bad_shape("groups : sum ^" + text, "reserved word")
            self.bad_shape("groups : count sum ^that." + text, "reserved word")
            if text != "by":
                self.bad_shape("groups ^" + text + " 5 : count", "reserved word")

    def test_too_many_names_of_groups(self):
        for text in ("e", "5", '"a"', "(", ")", "that.a", "and", "by"):
            self.bad_shape("groups a b c d ^" + text, "too many names")
            self.bad_shape("groups by 5 a b c d ^" + text + " : count", "too many names")

    def test_widths(self):
        self.good("of sale\ngroups by 1 : count")
        self.good("of sale\ngroups by 9999 : count")
        for text in ("0", "-1", "10000", "-999999", "999999"):
            self.bad_shape("groups by ^" + text + " : count", "invalid width")
            self.bad_shape("groups by ^" + text, "invalid width")
        for text in ("a", '"a"', "(", ")", ":", "that.a", "by"):
            self.bad_shape("groups by ^" + text, "number expected")
            self.bad_shape("groups by ^" + text + " 5 : count", "number expected")

    def test_missing_in_groups(self):
        for text in ("groups", "groups by", "groups by 5", "groups a", "groups by 5 a", "groups a b c d", "groups :",
                     "groups by 5 a :", "groups : sum", "groups : count unlike"):
            self.bad_shape(text + "^", "missing token")
            self.bad_shape(text + "^   ", "missing token")

    def test_sums(self):
        for text in ("a", "5", '"sum"', "(", ")", ":", "that.sum", "and", "sums", "most"):
            self.bad_shape("groups : ^" + text, "sum expected")
            self.bad_shape("groups : count ^" + text + " b", "sum expected")
            self.bad_shape("groups a : sum b ^" + text, "sum expected")
        for word in ("sum", "least", "greatest", "unlike"):
            for text in ("5", '"a"', "(", ")", ":"):
                self.bad_shape("groups : " + word + " ^" + text, "name expected")

    def test_too_many_sums(self):
        six = "groups a : count sum a least b greatest c unlike that.d count"
        self.good("of sale\n" + six)
        for text in ("count", "sum a", "a", "5", '"a"', "(", ")", ":", "that.a", "and"):
            self.bad_shape(six + " ^" + text, "too many sums")


class OrderAndCountFaults(Faults):
    def test_columns(self):
        for shape, many in [("rows a", 1), ("rows a a", 2), ("rows a b c d e f", 6), ("groups : count", 1),
                            ("groups by 5 : count", 2), ("groups a b : count", 3), ("groups by 5 a b : sum a count", 5)]:
            start = "of sale\n" + shape + "\norder "
            for column in range(many):
                self.good(start + str(column) + " up")
            for column in (-1, many, many + 1, 999999, -999999):
                self.bad(start + "^" + str(column) + " up", "invalid column")
                self.bad(start + "^" + str(column) + " sideways", "invalid column")

    def test_order(self):
        for text in ("a", '"a"', "(", ")", ":", "that.a", "up"):
            self.bad_behind("order ^" + text, "number expected")
            self.bad_behind("order ^" + text + " up", "number expected")
        for text in ("a", "5", '"up"', "(", ")", ":", "that.up", "ups", "and"):
            self.bad_behind("order 1 ^" + text, "direction expected")
        for text in ("order", "order 1"):
            self.bad_behind(text + "^", "missing token")
            self.bad_behind(text + "^  ", "missing token")
        for text in ("a", "5", '"up"', "(", ")", ":", "that.up", "down", "first 5"):
            self.bad_behind("order 1 up ^" + text, "extra token")
            self.bad_behind("order 0 down ^" + text, "extra token")

    def test_first(self):
        for start in ("", "order 0 up\n"):
            self.good("of sale\nrows a\n" + start + "first 1")
            self.good("of sale\nrows a\n" + start + "first 999")
            for text in ("0", "-1", "1000", "999999"):
                self.bad_behind(start + "first ^" + text, "invalid count")
                self.bad_behind(start + "first ^" + text + " x", "invalid count")
            for text in ("a", '"a"', "(", ")", ":", "that.a"):
                self.bad_behind(start + "first ^" + text, "number expected")
            self.bad_behind(start + "first^", "missing token")
            self.bad_behind(start + "first^ ", "missing token")
            for text in ("a", "5", '"up"', "(", ")", ":", "that.up"):
                self.bad_behind(start + "first 5 ^" + text, "extra token")


class ConditionFaults(Faults):
    def test_missing(self):
        for text in ("", "a", "a is", "not", "(", "((", "not not", "a is 1 and", "a is 1 or", "a is 1 and not",
                     "a is 1 or (", "(a is 1", "((a is 1)", "(a is 1 and", "not (a is 1", "(a is 1) and (b is"):
            self.bad("of sale\nwhere" + (" " + text if text else "") + "^", "missing token")
            self.bad("of sale\nwhere" + (" " + text if text else "") + "^   \nrows a", "missing token")

    def test_extra(self):
        for text in ("x", "5", "(", ")", ":", '"x"', "that.x", "not", "is", "rows x", "by"):
            for start in (TEST, "(" + TEST + ")", "not " + TEST, TEST + " and " + TEST, TEST + " or not " + TEST):
                self.bad_where(start + " ^" + text, "extra token")
        self.bad_where("(a is 1)^)", "extra token")

    def test_operands(self):
        for text in (")", ":"):
            for start in ("", "not ", "(", "a is 1 and ", "a is 1 or ", "a is "):
                self.bad_where(start + "^" + text, "operand expected")
                self.bad_where(start + "^" + text + " is 1", "operand expected")
        self.bad_where("a is ^(b)", "operand expected")
        self.bad_where("a is ^( ", "operand expected")
        self.bad_where("(a is 1 and ^)", "operand expected")
        self.bad_where("(^)", "operand expected")

    def test_reserved_words(self):
        for word in RESERVED:
            for start in ("", "that."):
                self.bad_where("a is ^" + start + word, "reserved word")
                self.bad_where("a is ^" + start + word + " b is 1", "reserved word")
                if start + word != "not":
                    for before in ("", "not ", "(", "a is 1 and ", "(a is 1 or "):
                        self.bad_where(before + "^" + start + word + " is 1", "reserved word")
        self.bad_where("a is 1 and ^and b is 1", "reserved word")
        self.bad_where("a is 1 or ^or b is 1", "reserved word")

    def test_relations(self):
        for text in ("a", "5", '"is"', "(", ")", ":", "that.is", "and", "not", "or", "by", "equals"):
            for start in ("a ", "5 ", '"a" ', "that.a ", "not a ", "(a ", "b is 1 and a "):
                self.bad_where(start + "^" + text, "relation expected")
                self.bad_where(start + "^" + text + " 1", "relation expected")

    def test_brackets(self):
        for text in ("x", "5", "(", ":", '"x"', "that.x", "not", "is", "that.and", "that.or", "by"):
            for start in ("(" + TEST, "((" + TEST + ")", "(not " + TEST, "a is 1 and (b is 2 or c is 3",
                          "(" + TEST + " and (" + TEST + " or " + TEST + ")", "not (" + TEST):
                self.bad_where(start + " ^" + text, "bracket expected")
                self.bad_where(start + " ^" + text + ")", "bracket expected")

    def test_too_deep(self):
        for levels in (("(",) * 6, ("not ",) * 6, ("(", "not ") * 3, ("not ", "(") * 3, ("(", "(", "not ", "not ") * 2):
            start = "".join(levels[:6])
            self.bad_where(start + "^(", "too deep")
            self.bad_where(start + "^not", "too deep")
            self.bad_where(start + "^(a is 1", "too deep")
            self.bad_where(TEST + " and " + start + "^not a is 1", "too deep")
            whole = start + TEST + ")" * start.count("(")
            self.good("of sale\nwhere " + whole + "\nrows a")
            self.good("of sale\nwhere " + whole + " or " + whole + "\nrows a")
            self.bad_where(whole + " or " + start + "^(", "too deep")
        self.bad_where("(((((a is 1) and (b is 1 or (c is 1 and ^(d is 1))))))))", "too deep")

    def test_too_many_tests(self):
        for joint in (" and ", " or "):
            twelve = joint.join([TEST] * 12)
            self.good("of sale\nwhere " + twelve + "\nrows a")
            for text in (TEST, "a", "5", '"x"', ")", ":", "and", "or", "is", "that.x", "by"):
                self.bad_where(twelve + joint + "^" + text, "too many tests")
                self.bad_where(twelve + joint + "not ^" + text, "too many tests")
                self.bad_where(twelve + joint + "(^" + text, "too many tests")
            self.bad_where(twelve + joint + "not^", "missing token")
            self.bad_where(twelve + joint.rstrip() + "^", "missing token")
        four = "(" + " or ".join([TEST] * 4) + ")"
        self.good("of sale\nwhere " + " and ".join(["not " + four] * 3) + "\nrows a")
        self.bad_where(" and ".join([four] * 3) + " and ^a is 1", "too many tests")

    def test_first_from_the_left(self):
        self.bad_where("a ^b is 1 and (", "relation expected")
        self.bad_where("a is 1 and ^by is 1 x y", "reserved word")
        self.bad_where("^is is is", "reserved word")
        self.bad_where("(a is 1 ^b) c (((((((", "bracket expected")
        self.bad_where("a is 1 ^b (((((((", "extra token")


class Spoiled(Faults):
    def test_spoiled_texts(self):
        """A text is a question that reads and writes alike, or has a fault within it."""
        rng = seeded(40)
        reasons = {}
        for _ in range(60):
            text = plain_text(random_question(rng))
            for spoiled in rng.sample(spoiled_texts(text, ' ():"-019aZ\n.'), 40):
                fault = fault_of(spoiled)
                if fault is None:
                    question = read_question(spoiled)
                    self.assertEqual(read_question(write_question(question)), question)
                else:
                    line, column, reason = fault
                    reasons[reason] = True
                    texts = spoiled.split("\n") + [""]
                    self.assertTrue(1 <= column <= len(texts[line - 1]) + 1)
                    self.assertEqual(reason == "missing line", line == len(texts))
                    self.assertIn(reason, REASONS)
        self.assertGreater(len(reasons), 10)


if __name__ == "__main__":
    unittest.main()
