import unittest

from freshpage.errors import NoNode, NotFormed, NotTag
from freshpage.events import fired
from freshpage.reader import read
from freshpage.writer import written


def script(name, *rows, worths=""):
    code = "\n".join(rows)
    return f'<script name="{name}"{worths}>{code}</script>'


class Events(unittest.TestCase):
    def does(self, page, node, *outcome, kind="click", sign="", text=None, looks=""):
        """The outcome, and the text behind it if one is told."""
        tree = read(page)
        before = repr(tree)
        told, found = fired(tree, looks, kind, node, sign=sign)
        self.assertEqual(found, list(outcome), page)
        if text is not None:
            self.assertEqual(written(told), text)
        self.assertEqual(repr(tree), before)
        self.assertEqual((type(found), {type(one) for one in found} | {tuple}), (list, {tuple}))


class Way(Events):
    def test_down_and_back(self):
        page = ('<p cap-click="x" on-click="x"><b cap-click="x"><em on-click="x">a</em></b></p>' + script("x", "say worth this id"))
        told = [("run", "x", "cap", 1), ("run", "x", "cap", 2), ("run", "x", "on", 3), ("run", "x", "on", 1)]
        self.does(page, 3, *[one for run in told for one in (run, ("say", ""))])
        self.does(page, 2, *[one for run in told[:2] + told[3:] for one in (run, ("say", ""))])
        self.does(page, 1, *[one for run in told[:1] + told[3:] for one in (run, ("say", ""))])
        self.does(page, 0)

    def test_this_and_target(self):
        page = '<p id="p" on-click="x"><b id="b" cap-click="x" on-click="x">a</b></p>' + script(
            "x", "say worth this id & worth target id")
        self.does(page, 2, ("run", "x", "cap", 2), ("say", "bb"), ("run", "x", "on", 2), ("say", "bb"), ("run", "x", "on", 1),
                  ("say", "pb"))

    def test_the_kind(self):
        page = '<p on-click="x" on-clic="y" on-c="z" click="x">' + script("x") + script("y") + script("z")
        self.does(page, 1, ("run", "x", "on", 1))
        self.does(page, 1, ("run", "y", "on", 1), kind="clic")
        self.does(page, 1, ("run", "z", "on", 1), kind="c")
        self.does(page, 1, kind="on-click")

    def test_long_kinds_have_no_worth(self):
        self.does('<p on-abcdefghi="x">' + script("x"), 1, ("run", "x", "on", 1), kind="abcdefghi")
        self.does('<p on-abcdefghi="x">' + script("x"), 1, kind="abcdefghijkl")

    def test_the_handler_is_the_first_script_of_that_name(self):
        page = '<p on-click="x"></p><b name="x">say 0</b>' + script("y", "say 1") + script("x", "say 2") + script("x", "say 3")
        self.does(page, 1, ("run", "x", "on", 1), ("say", "2"))
        self.does('<p on-click="x"><script>say 1</script>', 1)
        self.does('<p on-click="x"></p><script name="x y">say 1</script>', 1)
        self.does('<p on-click="none">' + script("x", "say 1"), 1)

    def test_a_script_anywhere(self):
        self.does('<p on-click="x"><b><em>' + script("x", "say 1"), 1, ("run", "x", "on", 1), ("say", "1"))
        self.does('<p on-click="x"><b look="display: none">' + script("x", "say 1"), 1, ("run", "x", "on", 1), ("say", "1"))
        self.does(script("x", "say 1", worths=' on-click="x"'), 1, ("run", "x", "on", 1), ("say", "1"))

    def test_scripts_of_one_name_and_of_no_sign(self):
        page = '<p on-click="">' + script("", "say 1") + script("", "say 2")
        self.does(page, 1, ("run", "", "on", 1), ("say", "1"))
        self.does('<p on-click=""><script>say 1</script>', 1)
        self.does('<p on-click="a b\n">' + script("a b\n", "say 1"), 1, ("run", "a b\n", "on", 1), ("say", "1"))

    def test_a_script_of_no_text(self):
        self.does('<p on-click="x"><script name="x"></script>', 1, ("run", "x", "on", 1))

    def test_the_worths_as_they_are_then(self):
        page = '<p id="p" on-click="y"><b on-click="x">a</b></p>' + script("x", 'mark #p on-click "z"', "mark this k 1") + script(
            "y", "say 1") + script("z", "say 2")
        self.does(page, 2, ("run", "x", "on", 2), ("run", "z", "on", 1), ("say", "2"))
        page = '<p id="p" on-click="x"><b on-click="x">a</b></p>' + script("x", "unmark #p on-click", "say 1")
        self.does(page, 2, ("run", "x", "on", 2), ("say", "1"))
        page = '<p cap-click="x"><b id="b">a</b></p>' + script("x", 'mark #b on-click "y"', 'mark #b cap-click "y"') + script(
            "y", "say 1")
        self.does(page, 2, ("run", "x", "cap", 1), ("run", "y", "cap", 2), ("say", "1"), ("run", "y", "on", 2), ("say", "1"))

    def test_scripts_as_they_are_then(self):
        page = '<p on-click="y"><b on-click="x">a</b></p>' + script("x", 'mark #y name "z"', 'mark #z name "y"') + script(
            "y", "say 1", worths=' id="y"') + script("z", "say 2", worths=' id="z"')
        self.does(page, 2, ("run", "x", "on", 2), ("run", "y", "on", 1), ("say", "2"))
        page = '<p on-click="y"><b on-click="x">a</b></p>' + script("x", "cut #y") + script("y", "say 1", worths=' id="y"')
        self.does(page, 2, ("run", "x", "on", 2))
        page = '<p on-click="y"><b on-click="x">a</b></p>' + script("x", 'text #y "say 5"') + script("y", worths=' id="y"')
        self.does(page, 2, ("run", "x", "on", 2), ("run", "y", "on", 1), ("say", "5"))

    def test_a_tag_that_is_no_more_is_passed_over(self):
        page = '<p on-click="y"><b id="b" cap-click="x" on-click="y"><em on-click="y" id="e">a</em></b></p>' + script(
            "x", "cut #b") + script("y", 'say "y"')
        self.does(page, 3, ("run", "x", "cap", 2), ("run", "y", "on", 1), ("say", "y"))
        page = page.replace("cut #b", 'text #b "new"')
        self.does(page, 3, ("run", "x", "cap", 2), ("run", "y", "on", 2), ("say", "y"), ("run", "y", "on", 1), ("say", "y"))
        page = page.replace('text #b "new"', "cut #e")
        self.does(page, 3, ("run", "x", "cap", 2), ("run", "y", "on", 2), ("say", "y"), ("run", "y", "on", 1), ("say", "y"))

    def test_the_way_is_that_of_the_begin(self):
        page = '<p id="p" cap-click="x" on-click="y"><b id="b">a</b></p>' + script(
            "x", "cut #b", "add #p \"<b id='b' on-click='y'>c</b>\"".replace("'", "&quot;")) + script("y", 'say "y"')
        self.does(page, 2, ("run", "x", "cap", 1), ("run", "y", "on", 1), ("say", "y"))

    def test_gone_ones_are_nothing(self):
        page = '<p id="p" on-click="y"><b id="b" on-click="x">a</b></p>' + script("x", "say 1", "cut this", "say worth this id")
        self.does(page + script("y", "say worth target id"), 2, ("run", "x", "on", 2), ("say", "1"), ("fault", "x", 2),
                  ("run", "y", "on", 1), ("fault", "y", 0))
        self.does(page + script("y", "say 2", "if 0", "cut target", "end"), 2, ("run", "x", "on", 2), ("say", "1"),
                  ("fault", "x", 2), ("run", "y", "on", 1), ("say", "2"))

    def test_tags_keep_through_moved_numbers(self):
        page = '<b id="a"></b><p id="p" on-click="x">t</p>' + script(
            "x", 'add #a "<i></i><i></i>"', "say worth this id", "cut #a", "mark target k 1", "say worth this k", 'text this "n"',
            "say worth target id")
        self.does(page, 2, ("run", "x", "on", 2), ("say", "p"), ("say", "1"), ("say", "p"))
        page = 'x<b id="a"></b>y<p id="p" on-click="x">t</p>' + script("x", "cut #a", "say worth this id", "mark this k 1")
        self.does(page, 4, ("run", "x", "on", 4), ("say", "p"))

    def test_numbers_are_those_of_then(self):
        page = '<b id="a"></b><p on-click="y"><em on-click="x">t</em></p>' + script("x", "cut #a") + script("y")
        self.does(page, 3, ("run", "x", "on", 3), ("run", "y", "on", 1))

    def test_stop(self):
        page = '<p on-click="y"><b cap-click="x" on-click="y"><check>a</check></b></p>' + script("x", "stop", "say 1") + script("y")
        self.does(page, 3, ("run", "x", "cap", 2), ("say", "1"), ("own", "click", 3))
        self.does(page.replace("cap-click", "on-go"), 3, ("run", "y", "on", 2), ("run", "y", "on", 1), ("own", "click", 3))

    def test_stop_is_of_this_event(self):
        page = '<p on-ping="y" id="p"><b on-click="x" on-ping="y" id="b">a</b></p>' + script(
            "x", "send ping #b", "stop") + script("y", "say 1")
        self.does(page, 2, ("run", "x", "on", 2), ("event", "ping", 2), ("run", "y", "on", 2), ("say", "1"), ("run", "y", "on", 1),
                  ("say", "1"))


class Own(Events):
    def test_check(self):
        self.does("<check>a</check>", 1, ("own", "click", 1), text='<check on="yes">a</check>')
        self.does('<check x="1" on="yes">a</check>', 1, ("own", "click", 1), text='<check x="1">a</check>')
        self.does('<check on="no">a</check>', 1, ("own", "click", 1), text="<check>a</check>")
        self.does('<check on="">a</check>', 1, ("own", "click", 1), text="<check>a</check>")

    def test_at_the_nearest_one_around(self):
        self.does("<check><p><b>a</b></p></check>", 3, ("own", "click", 1), text='<check on="yes"><p><b>a</b></p></check>')
        self.does("<check><check>a</check></check>", 2, ("own", "click", 2), text='<check><check on="yes">a</check></check>')
        self.does("<check><check>a</check></check>", 1, ("own", "click", 1), text='<check on="yes"><check>a</check></check>')
        self.does("<p><check>a</check></p>", 1, text="<p><check>a</check></p>")
        self.does("<field>a</field>", 1)

    def test_key(self):
        self.does("<field>a</field>", 1, ("own", "key", 1), kind="key", sign="b", text="<field>ab</field>")
        self.does("<field></field>", 1, ("own", "key", 1), kind="key", sign="b", text="<field>b</field>")
        self.does("<field>a</field>", 1, ("own", "key", 1), kind="key", sign="<", text="<field>a&lt;</field>")
        self.does("<field>a</field>", 1, ("own", "key", 1), kind="key", sign="\n", text="<field>a\n</field>")
        self.does("<field>a</field>", 1, ("own", "key", 1), kind="key", text="<field>a</field>")
        self.does("<field>a<b>b<em>c</em></b>d</field>", 5, ("own", "key", 1), kind="key", sign="!", text="<field>abcd!</field>")
        self.does("<field>a<script>say 1</script></field>", 1, ("own", "key", 1), kind="key", text="<field>asay 1</field>")
        self.does("<p><b></b></p>", 2, kind="key", sign="x", text="<p><b></b></p>")

    def test_back(self):
        self.does("<field>ab</field>", 1, ("own", "back", 1), kind="back", text="<field>a</field>")
        self.does("<field>a</field>", 1, ("own", "back", 1), kind="back", text="<field></field>")
        self.does("<field></field>", 1, ("own", "back", 1), kind="back", text="<field></field>")
        self.does("<field>a<b>bc</b></field>", 3, ("own", "back", 1), kind="back", sign="x", text="<field>ab</field>")
        self.does("<field><field>ab</field></field>", 2, ("own", "back", 2), kind="back", text="<field><field>a</field></field>")

    def test_other_kinds_have_none(self):
        for kind in ("clicks", "on", "yes", "check", "field", "keys", "go"):
            self.does("<check><field>a</field></check>", 2, kind=kind, sign="x", text="<check><field>a</field></check>")

    def test_prevented(self):
        for kind in ("click", "key", "back"):
            page = f'<check on-{kind}="x"><field on-{kind}="y">a</field></check>' + script("x", "prevent", "say 1") + script("y")
            self.does(page, 2, ("run", "y", "on", 2), ("run", "x", "on", 1), ("say", "1"), kind=kind, text=page)

    def test_prevented_is_of_this_event(self):
        page = '<check on-click="x" id="c">a</check>' + script("x", "if worth this k", "else", "prevent", "mark this k 1",
                                                             "send click #c", "end")
        self.does(page, 1, ("run", "x", "on", 1), ("event", "click", 1), ("run", "x", "on", 1), ("own", "click", 1))

    def test_the_target_gone(self):
        page = '<check on-click="x"><b id="b">a</b></check>' + script("x", "cut #b")
        self.does(page, 2, ("run", "x", "on", 1), text=page.replace('<b id="b">a</b>', ""))
        page = '<check on-click="x"><b id="b">a</b></check>' + script("x", 'text this "n"')
        self.does(page, 2, ("run", "x", "on", 1), text=page.replace('<b id="b">a</b>', "n"))

    def test_it_is_done_at_the_end(self):
        page = '<check on-click="x" id="c">a</check>' + script("x", "say worth this on", 'mark this on "k"')
        self.does(page, 1, ("run", "x", "on", 1), ("say", ""), ("own", "click", 1), text=page)

    def test_a_field_put_around_amid(self):
        page = '<b id="b" on-key="x">a</b>' + script("x", 'add #b "<field>q</field>"')
        self.does(page, 1, ("run", "x", "on", 1), kind="key", sign="z")

    def test_refused(self):
        page = "<check></check>" + "x" * (4000 - 15)
        self.does(page, 1, text=page)
        page = "<check></check>" + "x" * (4000 - 15 - 9)
        self.does(page, 1, ("own", "click", 1))
        page = "<field></field>" + "x" * (4000 - 15)
        self.does(page, 1, kind="key", sign="a", text=page)
        self.does(page, 1, ("own", "key", 1), kind="key", text=page)
        self.does(page, 1, ("own", "back", 1), kind="back", text=page)
        self.does("<field></field>" + "x" * (4000 - 16), 1, ("own", "key", 1), kind="key", sign="a")
        self.does("<field></field>" + "x" * (4000 - 16), 1, kind="key", sign="<")

    def test_refused_where_nothing_would_be_changed(self):
        page = "<field>a</field>" + "<" * 3900
        self.does(page, 1, kind="key")
        self.does(page, 1, kind="back")
        self.does("<check></check>" + "<" * 3900, 1)


class Sent(Events):
    def test_in_their_order(self):
        page = '<p on-click="x" on-a="y" on-b="y" on-c="y" id="p"></p>' + script(
            "x", "send a this", "send b target", "say 1", "send c #p") + script("y", "say 2")
        self.does(page, 1, ("run", "x", "on", 1), ("say", "1"), ("event", "a", 1), ("run", "y", "on", 1), ("say", "2"),
                  ("event", "b", 1), ("run", "y", "on", 1), ("say", "2"), ("event", "c", 1), ("run", "y", "on", 1), ("say", "2"))

    def test_behind_those_to_come(self):
        page = '<p on-click="x" on-a="y" id="p"></p>' + script("x", "send a this", "send b this") + script("y", "send c this")
        self.does(page, 1, ("run", "x", "on", 1), ("event", "a", 1), ("run", "y", "on", 1), ("event", "b", 1), ("event", "c", 1))

    def test_behind_the_own_deed(self):
        page = '<check on-click="x" on-a="y"></check>' + script("x", "send a this") + script("y", "say worth this on")
        self.does(page, 1, ("run", "x", "on", 1), ("own", "click", 1), ("event", "a", 1), ("run", "y", "on", 1), ("say", "yes"))

    def test_they_have_the_sign_of_none(self):
        page = '<field on-key="x" on-a="y">q</field>' + script("x", "send a this", "say sign") + script("y", "say sign")
        self.does(page, 1, ("run", "x", "on", 1), ("say", "z"), ("own", "key", 1), ("event", "a", 1), ("run", "y", "on", 1),
                  ("say", ""), kind="key", sign="z")
        page = '<field on-go="x">q</field>' + script("x", "send key this", "send back this", "send back this")
        self.does(page, 1, ("run", "x", "on", 1), ("event", "key", 1), ("own", "key", 1), ("event", "back", 1), ("own", "back", 1),
                  ("event", "back", 1), ("own", "back", 1), kind="go", sign="s", text=page.replace("q", ""))

    def test_whose_targets_are_gone(self):
        page = '<p on-click="x"><b id="b"></b></p>' + script("x", "send a #b", "send c this", "cut #b", "say 1")
        self.does(page, 1, ("run", "x", "on", 1), ("say", "1"), ("event", "c", 1))
        page = '<p on-click="x" on-a="x"><b id="b"></b></p>' + script("x", "send a this", "send c #b", "cut #b")
        self.does(page, 1, ("run", "x", "on", 1), ("event", "a", 1), ("run", "x", "on", 1), ("fault", "x", 1),
                  ("event", "a", 1), ("run", "x", "on", 1), ("fault", "x", 1),
                  *[("event", "a", 1), ("run", "x", "on", 1), ("fault", "x", 1)] * 5, ("far",))

    def test_to_nothing(self):
        self.does('<p on-click="x">' + script("x", "say 1", "send a #none"), 1, ("run", "x", "on", 1), ("say", "1"),
                  ("fault", "x", 1))

    def test_numbers_are_those_of_then(self):
        page = '<b id="b"></b><p on-click="x"></p>' + script("x", "send a this", "cut #b")
        self.does(page, 2, ("run", "x", "on", 2), ("event", "a", 1))


class Far(Events):
    def test_eight_events_and_one_more(self):
        page = '<p on-click="x">' + script("x", *["send a this"] * 7)
        self.does(page, 1, ("run", "x", "on", 1), *[("event", "a", 1)] * 7)
        page = '<p on-click="x">' + script("x", *["send a this"] * 8)
        self.does(page, 1, ("run", "x", "on", 1), *[("event", "a", 1)] * 7, ("far",))
        page = '<p on-click="x" on-a="y">' + script("x", "send a this") + script("y", "send a this")
        self.does(page, 1, ("run", "x", "on", 1), *[("event", "a", 1), ("run", "y", "on", 1)] * 7, ("far",))

    def test_events_left_out_do_not_count(self):
        page = '<p on-click="x"><b id="b"></b></p>' + script("x", *["send a #b"] * 9, *["send c this"] * 7, "cut #b")
        self.does(page, 1, ("run", "x", "on", 1), *[("event", "c", 1)] * 7)
        page = '<p on-click="x"><b id="b"></b></p>' + script("x", *["send c this"] * 7, *["send a #b"] * 9, "cut #b")
        self.does(page, 1, ("run", "x", "on", 1), *[("event", "c", 1)] * 7)

    def rows(self, many, *rows, **more):
        """A page whose script begins with so many rows, of these only at its end."""
        loops, rest = divmod(many, 21)
        code = []
        for _ in range(loops):
            code += ["loop 20", "let x 1", "end"]
        return '<check on-click="x"></check>' + script("x", *code, *["let y 1"] * rest, *rows, **more)

    def test_400_rows_and_one_more(self):
        self.does(self.rows(400), 1, ("run", "x", "on", 1), ("own", "click", 1))
        self.does(self.rows(401), 1, ("run", "x", "on", 1), ("far",))
        self.does(self.rows(399, "say 1"), 1, ("run", "x", "on", 1), ("say", "1"), ("own", "click", 1))
        self.does(self.rows(400, "say 1"), 1, ("run", "x", "on", 1), ("far",))
        self.does(self.rows(399, "say 1", "say 2"), 1, ("run", "x", "on", 1), ("say", "1"), ("far",))

    def test_what_does_not_count(self):
        self.does(self.rows(400, "", "   "), 1, ("run", "x", "on", 1), ("own", "click", 1))
        self.does(self.rows(399, "if 1", "else", "say 1", "end"), 1, ("run", "x", "on", 1), ("own", "click", 1))
        self.does(self.rows(399, "if 0", "say 1", "else", "end"), 1, ("run", "x", "on", 1), ("own", "click", 1))
        self.does(self.rows(399, "loop 20", "", "end"), 1, ("run", "x", "on", 1), ("own", "click", 1))
        self.does(self.rows(399, "loop 0", "say 1", "end"), 1, ("run", "x", "on", 1), ("own", "click", 1))

    def test_what_counts(self):
        for rows in (["if 0", "end"], ["loop 0", "end"], ["stop"], ["prevent"], ["say none"], ["cut #none"], ["send a this"]):
            self.does(self.rows(400, *rows), 1, ("run", "x", "on", 1), ("far",))
        self.does(self.rows(399, "say none"), 1, ("run", "x", "on", 1), ("fault", "x", 57), ("own", "click", 1))
        self.does(self.rows(398, "loop 2", "say 1", "end"), 1, ("run", "x", "on", 1), ("say", "1"), ("far",))
        self.does(self.rows(397, "loop 2", "say 1", "end"), 1, ("run", "x", "on", 1), ("say", "1"), ("say", "1"),
                  ("own", "click", 1))

    def test_what_is_looked_at_ahead_does_not_count(self):
        page = self.rows(0, "say 1").replace('on-click="x"', 'cap-click="z" on-click="x"') + script("z", *["say 1"] * 450, "fault")
        self.does(page, 1, ("run", "z", "cap", 1), ("fault", "z", 450), ("run", "x", "on", 1), ("say", "1"), ("own", "click", 1))

    def test_rows_of_all_runs_and_events(self):
        for many, last in ((200, ("own", "click", 1)), (201, ("far",))):
            page = self.rows(many).replace("<check", '<check cap-click="x"')
            self.does(page, 1, ("run", "x", "cap", 1), ("run", "x", "on", 1), last)
        for many, said in ((48, [("say", "1")]), (49, [])):
            # Eight runs of 50 rows, or of 51, of which the last one is not done in the eighth.
            page = self.rows(many, "send a this", "say 1").replace("<check", '<check on-a="x"')
            told = [("event", "a", 1), ("run", "x", "on", 1), ("say", "1")]
            outcome = [("run", "x", "on", 1), ("say", "1"), ("own", "click", 1), *told * 6, *told[:2], *said]
            self.does(page, 1, *outcome, ("far",))

    def test_all_ends_there(self):
        page = self.rows(400, "say 1").replace("<check", '<p on-click="y"><check').replace("</check>", "</check></p>") + script(
            "y", "say 2")
        self.does(page, 2, ("run", "x", "on", 2), ("far",))
        page = self.rows(400, "send a this").replace("let x 1", "send a this", 1)
        self.does(page, 1, ("run", "x", "on", 1), ("far",))

    def test_what_was_done_stays(self):
        page = self.rows(399, "mark this k 1", "mark this k 2")
        self.does(page, 1, ("run", "x", "on", 1), ("far",), text=page.replace('on-click="x"', 'on-click="x" k="1"'))


class Handed(Events):
    def test_refused_in_their_order(self):
        tree = read("<p>a</p>")
        for node in (-1, 3, 10 ** 19, -10 ** 19):
            for kind, sign in (("click", ""), ("", ""), ("Bad", "xx")):
                with self.assertRaises(NoNode):
                    fired(tree, "", kind, node, sign=sign)
        for kind, sign in (("click", ""), ("", ""), ("Bad", "xx")):
            with self.assertRaises(NotTag):
                fired(tree, "", kind, 2, sign=sign)
        for kind, sign in (("", ""), ("Click", ""), ("a b", ""), ("abcdefghijklm", ""), ("-a", ""), ("click", "xx"), ("click", "\n\n"),
                           ("click\n", ""), ("1", "")):
            for node in (0, 1):
                with self.assertRaises(NotFormed):
                    fired(tree, "", kind, node, sign=sign)

    def test_by_names(self):
        tree = read('<p on-key="x">a</p>' + script("x", "say wide this & sign"))
        told = (tree, [("run", "x", "on", 1), ("say", "9z")])
        self.assertEqual(fired(width=9, sign="z", node=1, kind="key", looks="", tree=tree), told)
        self.assertEqual(fired(tree, "", "key", 1)[1][1], ("say", "40"))
        self.assertEqual(fired(tree, "p { margin: 1 }", "key", 1, width=9)[1][1], ("say", "7"))
        with self.assertRaises(TypeError):
            fired(tree, "", "key", 1, "z")

    def test_the_page_may_be_the_target(self):
        self.does('<p on-click="x"></p>' + script("x", "say 1"), 0)

    def test_told_lists_are_new(self):
        tree = read('<p on-click="x">a</p>' + script("x", "say 1"))
        told = fired(tree, "", "click", 1)
        self.assertEqual(type(told), tuple)
        told[1].clear()
        self.assertEqual(len(fired(tree, "", "click", 1)[1]), 2)

    def test_no_event_hangs_on_another(self):
        tree = read('<p on-click="x">a</p>' + script("x", "if sign", "let n 1", "end", "say n"))
        self.assertEqual(fired(tree, "", "click", 1, sign="s")[1][1], ("say", "1"))
        self.assertEqual(fired(tree, "", "click", 1)[1][1], ("fault", "x", 3))


if __name__ == "__main__":
    unittest.main()
