"""Rules told back from what they made of ROWs.

A LOG is (row, out): a rule has made out of row.
"""

from touchcaps.chains import chains_to, follows_from, lacking, seen_of, subsets, tight_chain
from touchcaps.errors import Known, Unfit
from touchcaps.forms import by_form, form_of, is_form, rule_of
from touchcaps.order import parting_row
from touchcaps.rows import all_rows, new_names, outside
from touchcaps.shapes import CONSTANT_BOUNDS, is_bounded, names_of
from touchcaps.values import with_tuples


def fits(rule, logs):
    """Whether the rule makes what all LOGs tell."""
    return all([rule(row) == tuple(out) for row, out in logs])


def chains_over(names, most):
    """All CHAINs with sets of these NAMEs and no number above most."""
    found = [()]
    for last in range(1, most + 1):
        found.extend([chain for chain in chains_to(names, last) if chain[0][1] <= most])
    return found


def forms_fitting(names, most, logs):
    """The FORMs of all rules over these NAMEs to most that fit."""
    told = with_tuples(logs)
    found = [(row, (), CONSTANT_BOUNDS) for row in all_rows(names) if all([out == row for _, out in told])]
    for named in subsets(names):
        fronts = all_rows(named)
        for chain in chains_over(named, most):
            # Those with one CHAIN that name the same are unlike by their fronts alone.
            seen = [seen_of(chain, named, row) for row, _ in told]
            found.extend([
                (front, outside(named, front), chain) for front in fronts
                if all([(*front, *own) == out for own, (_, out) in zip(seen, told)])
            ])
    return found


def some_fitting(names, most, logs):
    """The same; raises Unfit() if there are none."""
    found = forms_fitting(names, most, logs)
    if found == []:
        raise Unfit()
    return found


def all_fitting(names, most, logs):
    """The plain Rules over these NAMEs to most that fit, by their texts."""
    return sorted([rule_of(form) for form in forms_fitting(names, most, logs)], key=lambda rule: rule.text)


def sure(names, most, logs, row):
    """The ROW that all rules that fit make of this ROW; None if they do not make the same; raises Unfit()."""
    rows = [by_form(form, row) for form in some_fitting(names, most, logs)]
    return rows[0] if all([other == rows[0] for other in rows]) else None


def question(names, most, logs):
    """A ROW of which two rules that fit make unlike ROWs; None if there is just one; raises Unfit()."""
    forms = some_fitting(names, most, logs)
    return None if len(forms) == 1 else parting_row(rule_of(forms[0]), rule_of(forms[1]))


def telling_rows(names, most):
    """A ROW for each set of these NAMEs: any two unlike rules over them to most make unlike ROWs of one of them."""
    # How many others are shown behind each set tells what is let through: more than most where there is no BOUND.
    others = new_names(most + 1, names)
    return tuple([(*own, *others) for own in subsets(names)])


def read_off(names, most, told):
    """The plain Rule over these NAMEs to most that makes just these of the telling ROWs; raises Unfit()."""
    given = with_tuples(told)
    rows = telling_rows(names, most)
    if len(given) != len(rows):
        raise Unfit()
    form = form_told(names, most, given)
    if not is_form(form) or (is_bounded(form) and form[2][0][1] > most):
        raise Unfit()
    if given != tuple([by_form(form, row) for row in rows]):
        raise Unfit()
    return rule_of(form)


def form_told(names, most, told):
    """The only FORM of a rule over these NAMEs to most that can make these of the telling ROWs."""
    made = {own: out for own, out in zip(subsets(names), told)}
    # A NAME alone, ahead of all others, is shown unless it is gone.
    front = tuple([name for name in made[()] if name in names])
    gone = tuple([name for name in names if name not in front and name not in made[(name,)]])
    others = new_names(most + 1, names)
    named = tuple(sorted([*front, *gone]))
    shown = {own: len([name for name in made[own] if name in others]) for own in subsets(named)}
    if shown[()] == 0:
        return (front, (), CONSTANT_BOUNDS)
    if shown[()] > most:
        return (front, gone, ())
    return (front, gone, chain_told(shown))


def chain_told(shown):
    """The BOUNDs told by how many others are shown behind each set of what is named, those with fewer names first."""
    # A number with a set is so great as it has to be for the last one that is shown somewhere.
    ahead = [own for own in shown if shown[own] > 0]
    reaches = [(names, max([shown[own] + lacking(own, names) for own in ahead])) for names in shown]
    kept = [bound for bound in reaches if not any([bound != own and follows_from(bound, own) for own in reaches])]
    return tuple(sorted(kept, key=lambda bound: len(bound[0])))


def in_order(rule, order):
    """Whether the rule may have named its NAMEs for the first time in this order."""
    form = form_of(rule)
    named = names_of(form)
    if lacking(named, order) > 0:
        return False
    known = [name for name in order if name in named]
    return all([names == tuple(sorted(known[:len(names)])) for names, _ in form[2]])


def chain_in_order(named, falls, last):
    """The CHAIN whose sets are beginnings of named, with this last number.

    falls has the NAMEs with which, one more ahead, the reach falls by one. (It never falls by more.)
    """
    return tight_chain([
        (tuple(sorted(named[:size])), last + len([name for name in named[size:] if name in falls]))
        for size in range(len(named) + 1)
    ])


class Hunt:
    """Asks what a rule in order makes of ROWs, until the rule is known."""

    def __init__(self, order, most):
        self._order = tuple(order)
        self._most = most
        self._others = tuple(new_names(most + 1, order))
        self._answers = ()
        # What the first answer tells: the front, and how many others are shown, so the last number. That is 0 for what
        # is constant, and more than most where there is no BOUND.
        self._front = ()
        self._last = 0
        # The NAMEs of order of which it is not known yet whether they are named and whether the reach falls with them.
        self._left = self._order
        self._named = []
        self._falls = []
        self._ask = self._others
        self._rule = None

    @property
    def ask(self):
        return self._ask

    @property
    def rule(self):
        return self._rule

    @property
    def answers(self):
        return self._answers

    def __len__(self):
        return len(self._answers)

    def tell(self, out):
        """Takes what the rule makes of ask; raises Known() if the rule is known."""
        if self._rule is not None:
            raise Known()
        row = tuple(out)
        self._answers = (*self._answers, (self._ask, row))
        if len(self._answers) == 1:
            self._begin(row)
        else:
            self._learn(row)
        self._go_on()

    def _begin(self, row):
        """Learns from the first answer, to a ROW of others alone."""
        self._front = outside(row, self._others)
        self._last = len(row) - len(self._front)
        if self._last == 0:
            self._left = ()

    def _asked(self):
        """The NAMEs of left that are asked about: the last one, all at once where nothing can hide another one."""
        return self._left if self._last > self._most else self._left[-1:]

    def _learn(self, row):
        """Learns from an answer to a ROW of the NAMEs asked about, of those in falls, and of as many others as shown.

        As many others are shown again, unless the NAME is named and the reach does not fall with it: then one less.
        """
        shown = len([name for name in row if name in self._others])
        for name in self._asked():
            if name in self._front or name not in row:
                self._take(name, shown == self._last)
        self._left = outside(self._left, self._asked())

    def _take(self, name, falls):
        self._named.append(name)
        if falls:
            self._falls.append(name)

    def _go_on(self):
        """Finds out what can be told without asking, and what is to be asked next."""
        # If the reach did not fall with such a NAME there would be a BOUND with a number above most. (Where there is no
        # BOUND it does not matter whether it falls.)
        while self._left != () and self._left[-1] in self._front and self._last + len(self._falls) > self._most:
            self._take(self._left[-1], True)
            self._left = self._left[:-1]
        if self._left == ():
            self._ask = None
            self._rule = rule_of(self._form())
        else:
            self._ask = (*self._asked(), *self._falls, *self._others[:self._last])

    def _form(self):
        # The last number of what is constant is 0, and nothing is known to be named: so it comes out, too.
        named = [name for name in self._order if name in self._named]
        chain = () if self._last > self._most else chain_in_order(named, self._falls, self._last)
        return (self._front, tuple(sorted(outside(named, self._front))), chain)
