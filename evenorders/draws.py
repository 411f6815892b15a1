"""A draw that is led by deeds, which can be taken back."""

from evenorders.basics import is_integer
from evenorders.errors import NoName, NothingDone
from evenorders.making import part, with_before
from evenorders.orders import count
from evenorders.shares import next_shares
from evenorders.webs import Web


class Draw:
    """Who came, who comes last, who is left, and all that can be taken back."""

    def __init__(self, web):
        # Each deed puts a state behind the elder ones, none of which ever changes:
        # the web, who came, who comes last, who is left.
        self.states = ((Web(web.many, web.befores), (), (), tuple(range(web.many))),)

    def come(self, name):
        """One of those who may come next comes."""
        _check_is_one_of(self.may_come(), name)
        web, front, back, left = self.states[-1]
        self.states = (*self.states, (web, (*front, name), back, _without(left, name)))

    def end(self, name):
        """One of those who may come last of those who are left does."""
        _check_is_one_of(self.may_end(), name)
        web, front, back, left = self.states[-1]
        self.states = (*self.states, (web, front, (name, *back), _without(left, name)))

    def leave(self, name):
        """One of those who are left falls out; the befores that follow by this one stay."""
        web, front, back, left = self.states[-1]
        _check_is_one_of(left, name)
        self.states = (*self.states, (web, front, back, _without(left, name)))

    def learn(self, one, other):
        """Of two who are left the one must come ahead of the other from now on."""
        web, front, back, left = self.states[-1]
        _check_is_one_of(left, one)
        _check_is_one_of(left, other)
        self.states = (*self.states, (with_before(web, one, other), front, back, left))

    def front(self):
        """Those who came, in the order of the row."""
        return self.states[-1][1]

    def back_row(self):
        """Those who come last, in the order of the row."""
        return self.states[-1][2]

    def may_come(self):
        """Those of whom one may come next, ascending."""
        web, _, _, left = self.states[-1]
        return tuple([name for name in left if not any([(one, name) in web.befores for one in left])])

    def may_end(self):
        """Those of whom one may come last of those who are left, ascending."""
        web, _, _, left = self.states[-1]
        return tuple([name for name in left if not any([(name, one) in web.befores for one in left])])

    def left(self):
        """Those who are neither drawn nor out, ascending."""
        return self.states[-1][3]

    def rest(self):
        """How many ways there are to draw those who are left."""
        web, _, _, left = self.states[-1]
        return count(part(web, left)) if left else 1

    def shares(self):
        """With which shares of these ways each comes next."""
        web, _, _, left = self.states[-1]
        if not left:
            return {}
        # In the web of those who are left they are numbered anew.
        found = next_shares(part(web, left), ())
        return {left[at]: found[at] for at in found}

    def undo(self):
        """Take back the last deed that is not taken back."""
        if self.deeds() == 0:
            raise NothingDone()
        self.states = self.states[:-1]

    def deeds(self):
        """How many deeds can be taken back."""
        return len(self.states) - 1

    def copy(self):
        """Another draw that goes on apart, and can go back likewise."""
        other = Draw(self.states[0][0])
        other.states = self.states
        return other

    def trying(self, action):
        """What an action returns that is done with the draw; it changes nothing for good."""
        held = self.states
        try:
            return action(self)
        finally:
            self.states = held


def _check_is_one_of(names, thing):
    if not is_integer(thing) or thing not in names:
        raise NoName()


def _without(names, gone):
    return tuple([name for name in names if name != gone])
