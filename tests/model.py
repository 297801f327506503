"""A second, slow and plain telling of the calls, to hold the program against.

Texts are read by a table of what can stand next, rules are trees, companies are sets of officers, the least
and greatest companies are sought among all subsets and supersets, powers are counted order by order, and
weights and trades are sought among all that there are.
"""

import fractions
import itertools
import re

KEPT = ("and", "or", "of", "anybody", "nobody")
CALLS = ("clear file look text event undo told may least forbidden locks keys scheme swings power idle alike hinder "
         "without weights weigh trade rule compare now behind opened").split()
START = {"names": [], "tree": ("nobody",), "events": []}


class Misplaced(Exception):
    pass


def words_of(text):
    found = []
    place = 0
    for k, piece in enumerate(re.split("([ \n])", text)):
        if k % 2 == 0 or piece == "\n":
            found.append((piece, place))
        place += len(piece)
    return found


def lets(tree, company):
    if tree[0] == "officer":
        return tree[1] in company
    if tree[0] == "of":
        return len(company & set(tree[2])) >= tree[1]
    if tree[0] == "and":
        return lets(tree[1], company) and lets(tree[2], company)
    if tree[0] == "or":
        return lets(tree[1], company) or lets(tree[2], company)
    return tree[0] == "anybody"


def told_rule(tree, names):
    if tree[0] == "officer":
        return names[tree[1]]
    if tree[0] == "of":
        return " ".join([str(tree[1]), "of", "("] + [names[n] for n in tree[2]] + [")"])
    if tree[0] not in ("and", "or"):
        return tree[0]
    left, right = told_rule(tree[1], names), told_rule(tree[2], names)
    if tree[0] == "and" and tree[1][0] == "or":
        left = "( " + left + " )"
    if (tree[0], tree[2][0]) in (("and", "or"), ("and", "and"), ("or", "or")):
        right = "( " + right + " )"
    return " ".join([left, tree[0], right])


def hall(events):
    there, dead, pairs = set(), set(), set()
    for event in events:
        if event[0] == "come":
            there.add(event[1])
        elif event[0] == "go":
            there.remove(event[1])
        elif event[0] == "die":
            there.discard(event[1])
            dead.add(event[1])
            pairs = {pair for pair in pairs if pair[0] != event[1]}
        elif event[0] == "stand":
            pairs.add(event[1:])
    return there, dead, pairs


def acting(there, pairs):
    found, waiting = set(), list(there)
    while waiting:
        officer = waiting.pop()
        if officer not in found:
            found.add(officer)
            waiting.extend(b for a, b in pairs if a == officer)
    return found


def can_be(event, state):
    there, dead, pairs = hall(state["events"])
    if event[0] == "come":
        return event[1] not in there | dead
    if event[0] == "go":
        return event[1] in there
    if event[0] == "die":
        return event[1] not in dead
    if event[0] == "stand":
        return event[1] != event[2] and not dead & set(event[1:]) and event[1:] not in pairs
    return lets(state["tree"], acting(there, pairs))


class Table:
    """Takes a text word by word; `self.next` is what takes the next one."""

    def __init__(self, state, first):
        self.state = {"names": list(state["names"]), "tree": state["tree"], "events": list(state["events"])}
        self.next = first
        self.alone = first != "officers"
        self.trees, self.joins, self.partial = [], [], None

    def need(self, holds):
        if not holds:
            raise Misplaced()

    def officer(self, word):
        self.need(word in self.state["names"])
        return self.state["names"].index(word)

    def take(self, word):
        getattr(self, "at_" + self.next)(word)

    def at_officers(self, word):
        self.need(word == "officers")
        self.next = "name"

    def at_name(self, word):
        if word == "\n":
            self.next = "rule"
            return
        names = self.state["names"]
        self.need(re.fullmatch("[a-z]{1,12}", word) and word not in KEPT + tuple(names) and len(names) < 6)
        names.append(word)

    def at_rule(self, word):
        self.need(word == "rule")
        self.next = "one"

    def at_one(self, word):
        if word == "(":
            self.need(self.joins.count("(") < 8)
            self.joins.append("(")
        elif re.fullmatch("[1-6]", word):
            self.partial = (int(word), [])
            self.next = "of"
        else:
            tree = (word,) if word in ("anybody", "nobody") else ("officer", self.officer(word))
            self.trees.append(tree)
            self.next = "joined"

    def at_of(self, word):
        self.need(word == "of")
        self.next = "bracket"

    def at_bracket(self, word):
        self.need(word == "(")
        self.next = "chosen"

    def at_chosen(self, word):
        number, chosen = self.partial
        if word == ")":
            self.need(len(chosen) >= max(1, number))
            self.trees.append(("of", number, tuple(chosen)))
            self.next = "joined"
            return
        officer = self.officer(word)
        self.need(not chosen or officer > max(chosen))
        chosen.append(officer)

    def join_while(self, joins):
        while self.joins and self.joins[-1] in joins:
            right, left = self.trees.pop(), self.trees.pop()
            self.trees.append((self.joins.pop(), left, right))

    def at_joined(self, word):
        if word == "and":
            self.join_while(("and",))
            self.joins.append("and")
            self.next = "one"
        elif word == "or":
            self.join_while(("and", "or"))
            self.joins.append("or")
            self.next = "one"
        elif word == ")":
            self.join_while(("and", "or"))
            self.need(self.joins)
            self.joins.pop()
        else:
            self.need(word == "\n" and "(" not in self.joins and not self.alone)
            self.end_rule()
            self.next = "event"

    def end_rule(self):
        self.join_while(("and", "or"))
        self.state["tree"] = self.trees[0]

    def at_event(self, word):
        self.need(len(self.state["events"]) < 60)
        self.need(word in ("come", "go", "die", "stand", "open"))
        self.partial = (word,)
        if word == "open":
            self.end_event()
        else:
            self.next = "stand_in" if word == "stand" else "event_officer"

    def at_event_officer(self, word):
        self.partial = self.partial + (self.officer(word),)
        self.end_event()

    def at_stand_in(self, word):
        self.partial = self.partial + (self.officer(word),)
        self.next = "for"

    def at_for(self, word):
        self.need(word == "for")
        self.next = "event_officer"

    def end_event(self):
        self.need(can_be(self.partial, self.state))
        self.state["events"].append(self.partial)
        self.next = "behind"

    def at_behind(self, word):
        self.need(word == "\n" and not self.alone)
        self.next = "event"

    def may_end(self):
        return self.next == "behind" or self.next == "joined" and "(" not in self.joins


def read(text, state, first):
    """(place of the fault or None, the state that the text tells)"""
    table = Table(state, first)
    for word, place in words_of(text):
        try:
            table.take(word)
        except Misplaced:
            return place, None
    if not table.may_end():
        return len(text), None
    if table.next == "joined":
        table.end_rule()
    return None, table.state


def told_event(event, names):
    if event[0] == "open":
        return "open"
    return " ".join([event[0], " for ".join(names[officer] for officer in event[1:])])


def told(state):
    lines = [" ".join(["officers"] + state["names"]), "rule " + told_rule(state["tree"], state["names"])]
    return "\n".join(lines + [told_event(event, state["names"]) for event in state["events"]])


def number_of(company):
    return sum(2 ** officer for officer in company)


def companies(state):
    everybody = range(len(state["names"]))
    found = [set(some) for size in range(7) for some in itertools.combinations(everybody, size)]
    return sorted(found, key=number_of)


def least(state):
    mays = [company for company in companies(state) if lets(state["tree"], company)]
    return [company for company in mays if not any(other < company for other in mays)]


def forbidden(state):
    mayn_t = [company for company in companies(state) if not lets(state["tree"], company)]
    return [company for company in mayn_t if not any(other > company for other in mayn_t)]


def locks(state):
    return [set(range(len(state["names"]))) - company for company in forbidden(state)]


def weigh(company, weights):
    return sum(weights[officer] for officer in company)


def quota(state, weights):
    """The quota of the weights, or None if they don't tell the rule."""
    for company in least(state):
        for other in forbidden(state):
            if weigh(company, weights) <= weigh(other, weights):
                return None
    if not least(state):
        return sum(weights) + 1
    return min(weigh(company, weights) for company in least(state))


def pairs(state, may):
    """(how often each officer stands in the pair, the pair) for each pair of companies that may, or mayn't."""
    found = [company for company in companies(state) if lets(state["tree"], company) == may]
    return [([(n in one) + (n in other) for n in range(6)], (number_of(one), number_of(other)))
            for k, one in enumerate(found) for other in found[k:]]


def behind(state, events):
    there, dead, stands = hall(events)
    act = acting(there, stands)
    return [number_of(there), number_of(dead), number_of(act), int(lets(state["tree"], act)),
            sum(event[0] == "open" for event in events)]


def counted(numbers):
    return [len(numbers)] + list(numbers)


class Model:
    """The calls on one object; each answers its numbers."""

    def __init__(self):
        self.state = START

    def answer(self, number, given):
        return getattr(self, "call_" + CALLS[number])(given)

    def call_clear(self, given):
        self.state = START
        return [0]

    def text_of(self, given):
        if len(given) > 2000 or not set(given) <= set(range(256)):
            return None
        return bytes(given).decode("latin-1")

    def take(self, given, first):
        text = self.text_of(given)
        if text is None:
            return -1
        place, state = read(text, START if first == "officers" else self.state, first)
        if place is not None:
            return -1000 - place
        self.state = state
        return None

    def call_file(self, given):
        refused = self.take(given, "officers")
        return [refused] if refused else [len(self.state["names"]), len(self.state["events"])]

    def call_look(self, given):
        text = self.text_of(given)
        if text is None:
            return [-1]
        place = read(text, START, "officers")[0]
        return [0] if place is None else [1, place]

    def call_text(self, given):
        return [0] + list(told(self.state).encode())

    def call_event(self, given):
        refused = self.take(given, "event")
        return [refused] if refused else [len(self.state["events"])]

    def call_undo(self, given):
        if given[0] not in range(61):
            return [-3]
        if given[0] > len(self.state["events"]):
            return [-5]
        self.state = dict(self.state, events=self.state["events"][:given[0]])
        return given

    def call_told(self, given):
        found = [self.state["names"], self.state["events"], least(self.state), forbidden(self.state)]
        return [len(one) for one in found]

    def call_may(self, given):
        if given[0] not in range(64):
            return [-3]
        for company in companies(self.state):
            if number_of(company) == given[0]:
                return [int(lets(self.state["tree"], company))]
        return [-5]

    def call_least(self, given):
        return counted([number_of(company) for company in least(self.state)])

    def call_forbidden(self, given):
        return counted([number_of(company) for company in forbidden(self.state)])

    def call_locks(self, given):
        return counted([number_of(company) for company in locks(self.state)])

    def call_keys(self, given):
        found = locks(self.state)
        return counted([sum(n in lock for lock in found) for n in range(len(self.state["names"]))])

    def call_scheme(self, given):
        all_of_them = companies(self.state)
        by_number = {number_of(company): company for company in all_of_them}
        if len(given) > 100 or not set(given) <= set(by_number):
            return [-4]
        for company in all_of_them:
            unlocks = all(by_number[lock] & company for lock in given)
            if unlocks != lets(self.state["tree"], company):
                return [0, number_of(company)]
        return [1]

    def call_swings(self, given):
        tree = self.state["tree"]
        found = []
        for n in range(len(self.state["names"])):
            without = [company for company in companies(self.state) if n not in company]
            found.append(sum(lets(tree, company | {n}) > lets(tree, company) for company in without))
        return counted(found)

    def call_power(self, given):
        count = len(self.state["names"])
        swung = [0] * count
        orders = list(itertools.permutations(range(count)))
        for order in orders:
            for k, officer in enumerate(order):
                if lets(self.state["tree"], set(order[:k + 1])) and not lets(self.state["tree"], set(order[:k])):
                    swung[officer] += 1
        powers = [fractions.Fraction(one, len(orders)) for one in swung]
        return [count] + [number for power in powers for number in (power.numerator, power.denominator)]

    def call_idle(self, given):
        swings = self.call_swings([])[1:]
        return counted([n for n, count in enumerate(swings) if not count])

    def call_alike(self, given):
        for officer in given:
            if officer not in range(6):
                return [-3]
            if officer not in range(len(self.state["names"])):
                return [-5]
        a, b = given
        for company in companies(self.state):
            other = {b if officer == a else a if officer == b else officer for officer in company}
            if lets(self.state["tree"], company) != lets(self.state["tree"], other):
                return [0]
        return [1]

    def call_hinder(self, given):
        everybody = set(range(len(self.state["names"])))
        found = [company for company in companies(self.state) if not lets(self.state["tree"], everybody - company)]
        return counted([number_of(company) for company in found if not any(other < company for other in found)])

    def call_without(self, given):
        refused = self.call_may(given)
        if refused[0] < 0:
            return refused
        return counted([number for number in self.call_least([])[1:] if not number & given[0]])

    def call_weights(self, given):
        if given[0] not in range(6):
            return [-3]
        for weights in itertools.product(range(given[0] + 1), repeat=len(self.state["names"])):
            found = quota(self.state, weights)
            if found is not None:
                return [1, found] + counted(weights)
        return [0]

    def call_weigh(self, given):
        if len(given) != len(self.state["names"]) or not set(given) <= set(range(1001)):
            return [-4]
        found = quota(self.state, given)
        return [0] if found is None else [1, found]

    def call_trade(self, given):
        mayn_t = pairs(self.state, False)
        for stands, pair in pairs(self.state, True):
            for others, other in mayn_t:
                if stands == others:
                    return [1] + list(pair + other)
        return [0]

    def read_rule(self, given):
        """(refusal or None, the state with the rule that the text tells)"""
        text = self.text_of(given)
        if text is None:
            return -1, None
        place, state = read(text, self.state, "one")
        return (None, state) if place is None else (-1000 - place, None)

    def call_rule(self, given):
        refused, state = self.read_rule(given)
        if refused or self.state["events"]:
            return [refused or -6]
        self.state = state
        return [0]

    def call_compare(self, given):
        refused, state = self.read_rule(given)
        if refused:
            return [refused]
        for company in companies(state):
            if lets(state["tree"], company) != lets(self.state["tree"], company):
                return [0, number_of(company)]
        return [1]

    def call_now(self, given):
        return behind(self.state, self.state["events"])

    def call_behind(self, given):
        if given[0] not in range(61):
            return [-3]
        if given[0] > len(self.state["events"]):
            return [-5]
        return behind(self.state, self.state["events"][:given[0]])

    def call_opened(self, given):
        return counted([k for k, event in enumerate(self.state["events"]) if event == ("open",)])
