"""Facts, atoms, bodies and rules as texts, and read from texts."""

from rulehouse.errors import BadLine, BadText, NoText
from rulehouse.facts import Facts
from rulehouse.names import FIGURES, is_letter, is_name
from rulehouse.parts import as_atom, as_body, as_fact, as_part, as_rule
from rulehouse.rules import Rules

MOST_FIGURES = 18
IF = " if "


def _row_text(row):
    return " ".join([str(term) for term in row])


def _part_text(part):
    if part[0] == "not":
        return "not " + _row_text(part[1])
    return _row_text(part)


def _body_text(body):
    return ", ".join([_part_text(part) for part in body])


def _rule_text(rule):
    head, body = rule
    if not body:
        return _row_text(head)
    return _row_text(head) + IF + _body_text(body)


def line_of(thing):
    """The text of a fact, an atom, a rule or a body, on one line."""
    atom = as_atom(thing)
    if atom is not None:
        return _row_text(atom)
    rule = as_rule(thing)
    if rule is not None:
        return _rule_text(rule)
    body = as_body(thing)
    if body is not None:
        return _body_text(body)
    raise NoText(thing)


def _is_number_text(word):
    figures = word[1:] if word.startswith("-") else word
    if not 1 <= len(figures) <= MOST_FIGURES or not all([sign in FIGURES for sign in figures]):
        return False
    return figures[0] != "0" or word == "0"


def _term_in(word):
    """The term that a word is, None if it is none."""
    if is_name(word) or is_letter(word):
        return word
    if _is_number_text(word):
        return int(word)
    return None


def part_told(text):
    """The part that has a text, None if there is none."""
    words = text.split(" ")
    if words[0] == "not":
        return as_part(["not", words[1:2] + [_term_in(word) for word in words[2:]]])
    return as_part(words[:1] + [_term_in(word) for word in words[1:]])


def body_told(text):
    """The tuple of parts that has a text, None if there is none."""
    if text == "":
        return ()
    return as_body([part_told(part) for part in text.split(", ")])


def rule_told(text):
    """The rule that has a text, None if there is none."""
    head, word, body = text.partition(IF)
    if word != "" and body == "":
        return None
    return as_rule((part_told(head), body_told(body)))


def fact_in(line):
    """The fact that has a text."""
    fact = as_fact(part_told(line)) if isinstance(line, str) else None
    if fact is None:
        raise BadText(line)
    return fact


def rule_in(line):
    """The rule that has a text, safe or not."""
    rule = rule_told(line) if isinstance(line, str) else None
    if rule is None:
        raise BadText(line)
    return rule


def body_in(line):
    """The body that has a text."""
    body = body_told(line) if isinstance(line, str) else None
    if body is None:
        raise BadText(line)
    return list(body)


def write_facts(facts):
    """The text with a line for each fact, in THE ORDER."""
    return "".join([_row_text(fact) + "\n" for fact in facts.listed()])


def write_rules(rules):
    """The text with a line for each rule, in order."""
    return "".join([_rule_text(rule) + "\n" for rule in rules.listed()])


def lines_of(text):
    """The lines of a text, and behind them what stands behind the last line feed."""
    if not isinstance(text, str):
        raise BadLine(0)
    return text.split("\n")


def check_end(lines):
    """Raises BadLine if the last line lacks its line feed."""
    if lines[-1] != "":
        raise BadLine(len(lines) - 1)


def read_facts(text):
    """The set of facts that has a text."""
    lines = lines_of(text)
    facts = []
    for index, line in enumerate(lines[:-1]):
        fact = as_fact(part_told(line))
        if fact is None:
            raise BadLine(index)
        facts.append(fact)
    check_end(lines)
    return Facts(facts)


def read_rules(text):
    """The Rules that has a text."""
    lines = lines_of(text)
    rules = []
    for index, line in enumerate(lines[:-1]):
        rule = rule_told(line)
        if rule is None:
            raise BadLine(index)
        rules.append(rule)
    check_end(lines)
    return Rules(rules)
