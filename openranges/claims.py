"""Claims: where every let program keeps a clause, why, and a program that breaks it elsewhere."""

from openranges.forms import Basis
from openranges.integers import is_integer
from openranges.lets import let_program
from openranges.lines import value_at
from openranges.parts import is_part
from openranges.places import Places
from openranges.proofs import shown_parts, wrong_part
from openranges.questions import Question, asks_of
from openranges.rules import check_fits
from openranges.spots import is_sequence


def asks(rules, claim):
    """The Places of all x of which a claim says something."""
    check_fits(claim, rules.functions, rules.last)
    return asks_of(claim)


def holds(rules, claim):
    """The Places of all these x at which every let program keeps the claim."""
    check_fits(claim, rules.functions, rules.last)
    return Places([(part.first, part.last) for part in shown_parts(Basis(rules), claim)])


def against(rules, claim):
    """The least x at which the claim does not hold, with a let program that breaks it there; None without one."""
    x = (asks(rules, claim) - holds(rules, claim)).least()
    return None if x is None else (x, _breaking_program(rules, claim, x))


def impossible(rules):
    """None if some program is let; otherwise (rows, end) that show that none is."""
    part = wrong_part(Basis(rules))
    return None if part is None else part.written()[2:]


def derivation(rules, claim):
    """Parts that show where a claim holds."""
    check_fits(claim, rules.functions, rules.last)
    return tuple([part.written() for part in shown_parts(Basis(rules), claim)])


def is_derivation(rules, claim, places, parts):
    """Whether parts, any value, show that the claim holds at just these Places, all of which it asks for."""
    if not places.within(asks(rules, claim)) or not isinstance(parts, (tuple, list)):
        return False
    stretches = []
    for part in parts:
        if not is_sequence(part, 4) or not is_integer(part[0]) or not is_integer(part[1]):
            return False
        ahead = stretches[-1][1] if stretches else -1
        if not ahead < part[0] <= part[1] <= rules.last or not is_part(rules, Question(claim), part):
            return False
        stretches.append((part[0], part[1]))
    return Places(stretches) == places


def _breaking_program(rules, claim, x):
    """A let program that does not keep a claim at x, where it does not hold."""
    question = Question(claim)
    asked = [(function, x + by) for function, by in question.asked]
    if not question.sums:
        return let_program(rules, asked, None, 0)
    programs = []
    for start, _, line in question.sums:
        call = None if start is None else (start[0], x + start[1])
        programs.append(let_program(rules, asked, call, value_at(line, x)))
    return [program for program in programs if x in program.breaches(claim)][0]
