"""Plans as texts."""

from tiedtables.errors import BadLine
from tiedtables.plans import is_tables
from tiedtables.rules import is_rules
from tiedtables.ties import is_ties
from tiedtables.words import place_of, place_text, worth_of, worth_text

# What a plan's lines are laid on.
NO_PLAN = ((), (), ())


def plan_text(plan):
    """The plan's text."""
    tables, ties, rules = plan
    lines = [_table_words(table) for table in tables]
    lines.extend([["tie", *tie] for tie in ties])
    for rule in rules:
        lines.extend(_rule_lines(rule))
    return "\n".join([" ".join(words) for words in lines])


def plan_from(text):
    """The plan of that text."""
    lines = text.split("\n")
    plan = NO_PLAN
    for at, line in enumerate(lines):
        plan = plan_with(plan, line)
        if plan is None:
            raise BadLine(at)
    if is_lacking(plan):
        raise BadLine(len(lines))
    return plan


def plan_with(plan, line):
    """The plan with one more line; None where the line is not so written or cannot stand there.

    Till its last line has come, its last rule may lack its test or its acts.
    """
    words = line.split(" ")
    if words[0] == "table":
        return _with_table(plan, words[1:])
    if words[0] == "tie":
        return _with_tie(plan, words[1:])
    if words[0] == "rule":
        return _with_rule(plan, words[1:])
    if words[0] == "if":
        return _with_test(plan, words[1:])
    if words[0] == "do":
        return _with_act(plan, words[1:])
    return None


def is_lacking(plan):
    """Whether a plan that is read line by line lacks a line: a table, a test or an act."""
    tables, _, rules = plan
    if not rules:
        return not tables
    _, side, _, _, _, test, acts = rules[-1]
    return test is None if side == "ahead" else not acts


def _with_table(plan, words):
    tables, ties, rules = plan
    # Behind the name each column has its fallback behind it.
    if ties or rules or len(words) % 2 == 0:
        return None
    fallbacks = [worth_of(word) for word in words[2::2]]
    more = (*tables, (words[0], tuple(zip(words[1::2], fallbacks))))
    return (more, (), ()) if is_tables(more) else None


def _with_tie(plan, words):
    tables, ties, rules = plan
    more = (*ties, tuple(words))
    return (tables, more, ()) if not rules and is_ties(tables, more) else None


def _with_rule(plan, words):
    tables, ties, rules = plan
    if len(words) != 5:
        return None
    column = None if words[4] == "-" else words[4]
    return _with_rules(tables, ties, (*rules, (*words[:4], column, None, ())))


def _with_test(plan, words):
    tables, ties, rules = plan
    if not rules or len(words) != 3:
        return None
    *head, test, acts = rules[-1]
    if test is not None or acts:
        return None
    told = (place_of(words[0]), words[1], place_of(words[2]))
    return _with_rules(tables, ties, (*rules[:-1], (*head, told, ())))


def _with_act(plan, words):
    tables, ties, rules = plan
    if not rules or not words:
        return None
    *head, acts = rules[-1]
    return _with_rules(tables, ties, (*rules[:-1], (*head, (*acts, _act_of(words)))))


def _with_rules(tables, ties, rules):
    """The plan with such rules; None where they cannot stand, whatever lines may follow."""
    # Only the last one may lack a line: the others are no rules then.
    whole = (*rules[:-1], _filled(rules[-1]))
    return (tables, ties, rules) if is_rules(tables, whole) else None


def _filled(rule):
    """The rule with what it lacks, as some line that may follow would have it."""
    *head, test, acts = rule
    if rule[1] == "ahead":
        return (*head, test or (0, "like", 0), acts)
    return (*head, test, acts or (("drop", rule[2], 0),))


def _act_of(words):
    """The act that is so written; no right one where none is."""
    if words[0] == "put":
        return (*words[:2], tuple([place_of(word) for word in words[2:]]))
    # Behind kind and table stand the key, a column and what is set or added.
    return tuple([place_of(word) if at in (2, 4) else word for at, word in enumerate(words)])


def _table_words(table):
    name, columns = table
    words = ["table", name]
    for column, fallback in columns:
        words.extend([column, worth_text(fallback)])
    return words


def _rule_lines(rule):
    """The words of the rule's lines, line by line."""
    name, side, table, kind, column, test, acts = rule
    lines = [["rule", name, side, table, kind, column or "-"]]
    if test is not None:
        one, sign, other = test
        lines.append(["if", place_text(one), sign, place_text(other)])
    lines.extend([["do", *_act_words(act)] for act in acts])
    return lines


def _act_words(act):
    if act[0] == "put":
        return [*act[:2], *[place_text(place) for place in act[2]]]
    return [place_text(part) if at in (2, 4) else part for at, part in enumerate(act)]
