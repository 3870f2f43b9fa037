"""The one way in: a list of calls, answered in order on a new office."""

from sittingrooms.forms import read_calls
from sittingrooms.handlers import answer_call
from sittingrooms.state import Office


def answers(calls):
    """For each call how many numbers are answered, then these."""
    office = Office()
    answered = []
    for number, told in read_calls(calls):
        answer = answer_call(office, number, told)
        answered.append(len(answer))
        answered.extend(answer)
    return answered
