"""The examples of the document, as they stand there, and how they are tried."""

ROWS = r'''
    >>> row = ("c", "a", "d")
    >>> is_row(row), is_row(()), is_row(("a", "a")), is_row(["a"]), is_row(("a", "B")), is_name("recent"), is_name("")
    (True, True, False, False, False, True, False)
    >>> touched(row, "a"), touched(row, "x"), forgotten(row, "a"), forgotten(row, "x")
    (('a', 'c', 'd'), ('x', 'c', 'a', 'd'), ('c', 'd'), ('c', 'a', 'd'))
    >>> capped(row, 2), capped(row, 9), capped(row, 0), outside(row, ("a", "b"))
    (('c', 'a'), ('c', 'a', 'd'), (), ('c', 'd'))
    >>> row_text(row), row_text(()), row_of("c a d") == row, row_of("-")
    ('c a d', '-', True, ())
    >>> row_of("c a c")
    raises BadText()
'''

RULES = r'''
    >>> rule, other = Rule.of("touch a; cap 3"), Rule.of("cap 3; touch a")
    >>> rule(("x", "y", "z")), other(("x", "y", "z")), rule(("x", "a", "y", "z")), other(("x", "a", "y", "z")), rule(())
    (('a', 'x', 'y'), ('a', 'x', 'y', 'z'), ('a', 'x', 'y'), ('a', 'x', 'y'), ('a',))
    >>> rule == other, rule.within(other), other.within(rule), Rule.of("cap 3; touch a; cap 3") == rule, Rule.of("touch a; touch a") == Rule.of("touch a")
    (False, True, False, True, True)
    >>> Rule.of("touch a; cap 3; forget a") == Rule.of("forget a; cap 2"), Rule.of("cap 2; forget a") == Rule.of("forget a; cap 2"), Rule.of("touch a; cap 1") == Rule.of("touch b; touch a; cap 1")
    (True, False, True)
    >>> (rule * 2).text, (rule * 10 ** 40).text, (rule * 0).text, other * 2 == rule, (rule >> Step("forget", "b")).text, len(rule), rule[1].text
    ('forget a; cap 2; touch a', 'forget a; cap 2; touch a', '-', True, 'touch a; cap 3; forget b', 2, 'cap 3')
    >>> Rule().text, Rule()(("x",)), Step.of("cap 2")(("x", "y", "z")), Step("forget", "y")(("x", "y", "z")), Step("touch", "a").text
    ('-', ('x',), ('x', 'y'), ('x', 'z'), 'touch a')
    >>> Step("cap", 0)
    raises BadStep(given=('cap', 0))
    >>> Rule.of("touch a;cap 3")
    raises BadText()
    >>> rule[2]
    raises NoPlace(place=2)
'''

FORMS = r'''
    >>> one = Rule.of("touch a; cap 3; touch b; cap 3; forget a")
    >>> two, still = Rule.of("cap 3; touch a; touch b; cap 4"), Rule.of("touch a; touch b; cap 2; forget b")
    >>> one(("x", "y", "a")), front(one), gone(one), bounds(one), constant(one), constant(still)
    (('b', 'x'), ('b',), ('a',), ((('a', 'b'), 1),), None, ('a',))
    >>> bounds(two), bounds(still), gone(still), bounds(Rule()), bounds(Rule.of("cap 3; touch a; cap 3"))
    ((((), 3), (('a', 'b'), 2)), (((), 0),), (), (), ((('a',), 2),))
    >>> follows((("a",), 3), ((), 3)), follows(((), 3), (("a",), 2)), follows(((), 3), (("a", "b"), 2)), follows((("a",), 2), ((), 3))
    (True, True, False, False)
    >>> tight(((("a", "b"), 2), ((), 3), (("a",), 3))), tight(()), tight((((), 5), ((), 4)))
    ((((), 3), (('a', 'b'), 2)), (), (((), 4),))
    >>> form_of(one), form_of(still), is_form(form_of(two)), is_form(((), (), (((), 0),))), is_form((("a",), ("a",), ())), is_form(((), ("a",), (((), 3), (("a",), 2))))
    ((('b',), ('a',), ((('a', 'b'), 1),)), (('a',), (), (((), 0),)), True, True, False, False)
    >>> plain(two).text, plain(one).text, plain(still).text, plain(Rule.of("touch q; cap 1; forget q")).text, rule_of((("a",), (), ())).text
    ('cap 3; forget a; forget b; cap 2; touch a; touch b', 'forget a; forget b; cap 1; touch b', 'touch a; cap 1', 'touch a; cap 1; forget a', 'touch a')
    >>> by_form(form_of(two), ("x", "a", "y", "z", "v")), two(("x", "a", "y", "z", "v")), by_form((("q",), (), (((), 0),)), ("x",))
    (('b', 'a', 'x', 'y'), ('b', 'a', 'x', 'y'), ('q',))
    >>> tight(((("a",), 2), (("b",), 1)))
    raises Apart(one=('a',), other=('b',))
'''

ORDER = r'''
    >>> one, other = Rule.of("touch a; cap 3"), Rule.of("cap 3; touch a")
    >>> compare(one, other), compare(other, one), compare(Rule.of("touch a; touch b"), Rule.of("touch b; touch a")), compare(one, Rule.of("cap 2; touch b"))
    ('within', 'around', 'shuffled', 'neither')
    >>> reach(one, ()), reach(one, ("a",)), reach(other, ("a", "b")), reach(Rule.of("forget a"), ()), reach(Rule.of("touch a; cap 1"), ("a",))
    (3, 2, 3, None, 0)
    >>> row = outside_row(other, one)
    >>> len([name for name in other(row) if name not in one(row)]) > 0, outside_row(one, other), parting_row(one, one), one(parting_row(one, other)) == other(parting_row(one, other))
    (True, None, None, False)
    >>> height(one), height(other), height(Rule.of("cap 1; touch a")), height(Rule.of("touch a")), [own.text for own in above(one)], [own.text for own in below(one)]
    (3, 4, 0, None, ['cap 3; touch a'], ['cap 2; touch a'])
    >>> near, wide = Rule.of("touch a; cap 3; touch b; touch a"), Rule.of("touch b; cap 3; touch a")
    >>> compare(near, wide), height(near), [own.text for own in above(near)], [own.text for own in least_around((near, wide))]
    ('neither', 4, ['cap 3; forget a; forget b; cap 2; touch b; touch a'], ['cap 3; forget a; forget b; cap 2; touch b; touch a'])
    >>> sorted([own.text for own in greatest_within((near, wide))]), len(climb(near, Rule.of("cap 3; touch b; touch a"))), climb(near, wide)
    (['cap 2; touch b; touch a', 'forget a; forget b; cap 1; touch b; touch a'], 3, None)
    >>> least_around((one, Rule.of("cap 3; touch b; forget a")))
    raises OtherNames(name='a')
'''

BEHIND = r'''
    >>> p, whole = Rule.of("touch a; cap 3"), Rule.of("touch a; touch b; cap 3")
    >>> p >> Rule.of("touch b; cap 3") == whole, p >> rest_of(p, whole) == whole, rest_of(p, Rule.of("touch a; touch b; cap 4"))
    (True, True, None)
    >>> far = Rule.of("touch b; cap 3")
    >>> front_of(far, whole) >> far == whole, front_of(Rule.of("touch b; cap 2"), whole), front_of(Rule.of("touch a"), whole)
    (True, None, None)
    >>> steady(p), steady(Rule.of("cap 3; touch a")), settles(Rule()), settles(p), settles(Rule.of("cap 3; touch a")), settles(Rule.of("cap 1; touch a"))
    (True, False, 0, 1, 2, 2)
    >>> idle_behind(p, Rule.of("touch a; cap 5")), idle_behind(p, Rule.of("cap 2")), idle_ahead(p, Rule.of("forget a")), idle_ahead(Rule.of("cap 3; touch a"), Rule.of("touch a"))
    (True, False, True, False)
    >>> either_order(p, Rule.of("touch a")), either_order(p, Rule.of("cap 2")), either_order(p, Rule.of("touch b"))
    (True, False, False)
    >>> x, y = meeting(Rule.of("cap 3; touch a"), Rule.of("cap 3; touch b"))
    >>> Rule.of("cap 3; touch a") >> x == Rule.of("cap 3; touch b") >> y, meeting(Rule.of("cap 3; touch a"), Rule.of("cap 2; touch b")), meeting(Rule.of("touch a; cap 1"), p)
    (True, None, None)
'''

NUMBERS = r'''
    >>> [how_many_bounds(number) for number in range(5)], [how_many(number) for number in range(4)], how_many_to(0, 3), how_many_to(1, 2), how_many_to(2, 1), how_many_to(2, 2)
    ([1, 2, 5, 16, 65], [1, 4, 25, 256], 4, 10, 25, 50)
    >>> [nth(("a",), 2, number).text for number in range(4)], number_of(one), number_of(Rule.of("cap 7"))
    (['cap 2; forget a', 'forget a; cap 2', 'cap 2; touch a', 'forget a; cap 2; touch a'], 3, 0)
    >>> low, high = Rule.of("cap 1; touch a"), Rule.of("cap 3; touch a")
    >>> many_between(low, high), many_between(high, low), [nth_between(low, high, number).text for number in range(5)]
    (5, 0, ['cap 1; touch a', 'forget a; cap 1; touch a', 'cap 2; touch a', 'forget a; cap 2; touch a', 'cap 3; touch a'])
    >>> rank_between(low, high, one), many_between(near, Rule.of("cap 3; touch b; touch a"))
    (3, 3)
    >>> rank_between(low, high, Rule.of("cap 4; touch a"))
    raises NotBetween(strange='cap 4; touch a')
    >>> nth(("a",), 2, 4)
    raises NoNumber(number=4)
'''

KNOWN = r'''
    >>> late, soon = Rule.of("touch a; cap 3"), Rule.of("cap 3; touch a")
    >>> can_come(late, ("a", "x", "y")), strange_place(late, ("a", "x", "y", "z")), strange_place(late, ("x",)), strange_place(late, ()), least_ahead(late, ("a", "x"))
    (True, 3, 0, 0, ('x',))
    >>> was_there(soon, ("a", "x"), "x"), was_there(soon, ("a", "x"), "a"), was_there(soon, ("a", "x"), "z"), was_there(soon, ("a", "x", "y"), "z"), was_there(soon, ("x",), "x")
    ('yes', 'open', 'no', 'open', None)
    >>> lost(soon, ("a", "x")), lost(soon, ("a", "x", "y")), lengths(soon, ("a", "x")), lengths(soon, ("a", "x", "y"))
    ((0, 0), (0, None), (1, 2), (2, None))
    >>> lost(soon, ("a", "x", "y"), length=4), was_there(soon, ("a", "x", "y"), "a", length=4), was_there(soon, ("a", "x", "y"), "a", length=3), was_there(soon, ("a", "x", "y"), "z", length=3)
    ((1, 1), 'yes', 'yes', 'no')
    >>> places(late, ("a", "x", "y"), "y"), places(soon, ("a", "x", "y", "z"), "z"), places(soon, ("a", "x"), "a"), sight(late), sight(soon), sight(Rule.of("touch a"))
    ((1, 2), (2, 2), None, 3, 3, None)
    >>> both = Rule.of("cap 3; touch a; touch b; cap 4")
    >>> how_many_ahead(both, ("b", "a")), [nth_ahead(both, ("b", "a"), number) for number in range(5)], rank_ahead(late, ("a", "x"), ("x", "a")), how_many_ahead(both, ("b", "a", "x"))
    (5, [(), ('a',), ('a', 'b'), ('b',), ('b', 'a')], 2, None)
    >>> nth_ahead(late, ("a", "x", "y"), 0)
    raises Endless()
'''

COSTS = r'''
    >>> one = Rule.of("touch b; cap 3; touch a; touch b")
    >>> touched_once(one), len(fewest(one)), fewest(one) == one, needless(one), touched_once(Rule.of("touch a; touch b")), touched_once(Rule.of("touch b; touch a; cap 2"))
    (('a',), 4, True, (), ('a', 'b'), ('a', 'b'))
    >>> needless(Rule.of("touch a; touch b; touch a; cap 9; cap 4")), len(fewest(Rule.of("touch q; cap 1; forget q"))), len(fewest(Rule.of("cap 4; touch a; cap 4; touch a"))), fewest(Rule()).text
    ((0, 3), 3, 2, '-')
    >>> prices = {"touch": 2, "forget": 1, "cap": 5}
    >>> price_of(one, prices), price_of(cheapest(one, prices), prices), cheapest(one, prices) == one
    (11, 10, True)
    >>> p = Rule.of("touch a; touch b")
    >>> p >> further(p, Rule.of("touch b; touch a")) == Rule.of("touch b; touch a"), len(further(p, Rule.of("touch b; touch a"))), further(p, Rule.of("forget a; touch b")).text, further(p, Rule.of("touch a")), further(p, p).text
    (True, 1, 'forget a', None, '-')
    >>> len(further(p, Rule.of("touch a; cap 1"))), len(further(p, Rule.of("touch c; touch a; touch b; cap 2"))), further(Rule.of("touch a; cap 1"), p), len(further(Rule.of("touch a; cap 3"), Rule.of("touch a; touch b; cap 3")))
    (2, 1, None, 2)
    >>> logs = ((("x", "y"), ("x",)),)
    >>> [rule.text for rule in all_fitting(("a",), 1, logs)], fits(Rule.of("cap 1"), logs), sure(("a",), 1, logs, ("x", "a")), sure(("a",), 1, logs, ("a", "x"))
    (['cap 1', 'cap 1; forget a', 'forget a; cap 1'], True, ('x',), None)
    >>> len(set([rule(question(("a",), 1, logs)) for rule in all_fitting(("a",), 1, logs)])) > 1, question(("a",), 1, (*logs, (("a", "x", "y"), ("a",))))
    (True, None)
    >>> late = Rule.of("touch a; cap 3")
    >>> len(telling_rows(("a", "b"), 2)), read_off(("a", "b"), 2, [late(row) for row in telling_rows(("a", "b"), 2)]).text
    (4, 'forget a; cap 2; touch a')
    >>> both = Rule.of("cap 3; touch a; touch b; cap 4")
    >>> in_order(both, ("b", "c", "a")), in_order(late, ("a",)), in_order(one, ("b", "a")), in_order(one, ("a", "b")), in_order(both, ("a", "c"))
    (True, True, True, False, False)
    >>> hunt = Hunt(("a", "b"), 5)
    >>> [hunt.tell(both(hunt.ask)) for turn in range(3) if hunt.rule is None], hunt.rule == both, len(hunt), hunt.ask
    ([None, None, None], True, 3, None)
    >>> hunt.tell(())
    raises Known()
    >>> sure(("a",), 1, ((("x",), ("y",)),), ())
    raises Unfit()
'''

DEVICES = r'''
    >>> used(("c", "b", "c", "a")), all_used((("a", "b"), ("b", "c"))), used(())
    (('a', 'c', 'b'), ('a', 'b', 'c'), ())
    >>> two = (("a", "b"), ("b", "c"))
    >>> how_many_joined(two, ()), [nth_joined(two, ("x",), number) for number in range(3)], how_many_joined(two, ("x",), cap=1), rank_joined(two, (), ("b", "c"), cap=2)
    (3, [('a', 'b', 'c', 'x'), ('b', 'a', 'c', 'x'), ('b', 'c', 'a', 'x')], 2, 2)
    >>> joined_by(two, ("x", "a"), (1, 0, 0, 1)), joined_by(two, ("x", "a"), (1, 0, 0, 1), cap=2), is_order(two, (0, 0, 1)), order_to(two, (), ("c", "b", "a")), is_joined(two, (), ("b", "c", "a"))
    (('b', 'a', 'c', 'x'), ('b', 'a'), False, None, True)
    >>> surely_ahead(two, "b", "c"), surely_ahead(two, "a", "c"), sure_pairs(two), place_range(two, "b"), place_range(two, "c"), place_range(two, "a")
    (True, False, (('b', 'c'),), (0, 1), (1, 2), (0, 2))
    >>> [stands(two, ("x", "y"), name, cap=3) for name in "abcxz"], stands(two, ("x", "y"), "a", cap=1), cap_for(two, ("x", "y"), "c"), cap_for(two, ("x", "y"), "y"), cap_for(two, ("x", "y"), "z")
    (['yes', 'yes', 'yes', 'no', 'no'], 'open', 3, 5, None)
    >>> surely_ahead(two, "b", "x")
    raises NotUsed(name='x')
'''

LONGS = r'''
    >>> files = Long(10, (("a", 4),))
    >>> one, other = Rule.of("touch a; cap 3"), Rule.of("cap 3; touch a")
    >>> files.after(one).text, files.after(other).text, files.lost(one), files.lost(other), files.text
    ('3: a 0', '4: a 0', 7, 6, '10: a 4')
    >>> [files.goes(one, place) for place in (0, 1, 2, 4)], [files.comes(one, place) for place in range(3)], files.comes(other, 3), Long(10, (("a", 1),)).after(other).text
    ([1, 2, None, 0], [4, 0, 1], 2, '3: a 0')
    >>> great = Long(10 ** 30, (("x", 10 ** 20), ("y", 3)))
    >>> made = great.after(Rule.of("touch x; cap 1000; forget y; touch z"))
    >>> made.size, made.places, great.goes(Rule.of("forget y; forget x"), 10 ** 30 - 1) == 10 ** 30 - 3, great.comes(Rule.of("touch z"), 0), great["x"] == 10 ** 20
    (1000, (('x', 1), ('z', 0)), True, None, True)
    >>> Long(5, (("a", 1), ("b", 1)))
    raises BadPlace(name='b')
    >>> files.goes(one, 10)
    raises NoPlace(place=10)
'''

BOARD = r'''
    >>> board = Board(("d", "e"))
    >>> board.attempt((("use", "c"), ("use", "b"), ("use", "a"), ("use", "d")))
    >>> board["menu"], board["start"] = Rule.of("cap 3"), Rule.of("forget a; cap 2")
    >>> board.row, board.shown("menu"), board.shown("start"), board.common(), board.unseen(), board.above("start"), board.effect("menu", Rule.of("cap 2"))
    (('d', 'a', 'b', 'c', 'e'), ('d', 'a', 'b'), ('d', 'b'), ('b', 'd'), ('c', 'e'), ('menu',), 'around')
    >>> board.cut(4), board.use("x"), board.row, board.limit, board.undo(), board.row, board.undo(), board.row, board.limit
    (None, None, ('x', 'd', 'a', 'b'), 4, True, ('d', 'a', 'b', 'c'), True, ('d', 'a', 'b', 'c', 'e'), None)
    >>> board.frame("start", None, Rule.of("cap 3"))
    >>> board["start"] = Rule.of("cap 4")
    raises Outside(name='start')
    >>> board += ("start", Step.of("cap 1"))
    >>> board.shown("start"), board.frames, board.undo(), board["start"].text
    (('d',), (('start', None, 'cap 3'),), True, 'forget a; cap 2')
    >>> board.attempt((("forget", "e"), ("forget", "e")))
    raises Stopped(number=1, raised='NoName', value='e')
    >>> board.row, board.doubled(), len(board)
    (('d', 'a', 'b', 'c', 'e'), (), 2)
'''

TEXTS = r'''
    >>> program_of("(touch a; cap 3) x 5").text, program_of("(cap 3; touch a) x 2").text, program_of("(touch a) x 0").text, program_of("((touch b) x 1; cap 9) x 1000000000000").text
    ('forget a; cap 2; touch a', 'forget a; cap 2; touch a', '-', 'forget b; cap 8; touch b')
    >>> program_of("(touch a; cap 3)")
    raises BadText()
    >>> made = board_in("d a b\nlimit 4\nmenu: cap 3\nmenu from cap 1 .. *\nend")
    >>> made.row, made.limit, made.shown("menu"), made.frames, made.undo(), board_text(made)
    (('d', 'a', 'b'), 4, ('d', 'a', 'b'), (('menu', 'cap 1', None),), False, 'd a b\nlimit 4\nmenu: cap 3\nmenu from cap 1 .. *\nend')
    >>> board_in("d a b\nlimit 2\nend")
    raises BadLine(number=1)
'''

DESK = r'''
    >>> answers("use c\nuse b\nuse a\nuse c\nrow\nview menu cap 2\nshown menu\ncut 2\nrow\nforget b\nview late touch z; cap 2\nunseen\nabove menu\neffect menu touch c; cap 2\nundo\nundo\nrow\nlift menu")
    ['done', 'done', 'done', 'done', 'c a b', 'done', 'c a', 'done', 'c a', 'refused NoName', 'done', '-', '-', 'neither', 'yes', 'yes', 'c a b', 'refused NoFrame']
    >>> answers(""), answers("row\nundo\ncommon\nleave a")
    ([], ['-', 'no', '-', 'refused NoView'])
    >>> answers("use a\nuse")
    raises BadLine(number=1)
'''


def parts_of(text):
    """Each line that is run, with the line that stands below it or None."""
    lines = [line.strip() for line in text.strip().split("\n")]
    below = [*lines[1:], ">>> "]
    return [
        (line[4:], None if after.startswith(">>> ") else after)
        for line, after in zip(lines, below) if line.startswith(">>> ")
    ]


def error_text(error):
    told = ", ".join(f"{name}={value!r}" for name, value in vars(error).items())
    return f"{type(error).__name__}({told})"


def is_expression(line):
    try:
        compile(line, "line", "eval")
    except SyntaxError:
        return False
    return True


def answer(line, names):
    """How the document tells what comes of this line; of a statement nothing comes but an error."""
    try:
        return repr(eval(line, names)) if is_expression(line) else repr(exec(line, names))
    except (LookupError, ValueError) as error:
        return f"raises {error_text(error)}"


def unlike(text, names):
    """The lines of these examples of which something else comes, with what comes of them."""
    found = []
    for line, expected in parts_of(text):
        if expected is None:
            exec(line, names)
        elif answer(line, names) != expected:
            found.append((line, answer(line, names)))
    return found
