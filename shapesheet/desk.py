"""The desk: takes the calls on a new sheet as one list and gives back their answers as one list."""

from shapesheet.calls import answer_to, rows_of, whole_numbers_of
from shapesheet.sheet import Sheet


def answers(calls):
    """Carry out the calls on a new sheet and give back their answers, each with its count before it."""
    sheet = Sheet()
    answered = []
    at = 0
    while at < len(calls):
        call = calls[at]
        end = at + 1 + whole_numbers_of(call)
        given = calls[at + 1:end]
        at = end
        for row in range(rows_of(call)):
            end = at + 1 + calls[at]
            given.append(calls[at + 1:end])
            at = end
        answer = answer_to(sheet, call, given)
        answered.append(len(answer))
        answered.extend(answer)
    return answered
