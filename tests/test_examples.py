"""Every example of the document, word for word."""

import unittest

from coupledyard.errors import YardError, YardStateError

EXAMPLES = '''
>>> from coupledyard.yards import validate_yard
>>> validate_yard((((0, 9), (0, 9)), ((0, 1, 2, 2),)))
raises InvalidYard('couplings', 0)

>>> from coupledyard.yards import make_yard
>>> make_yard(3, (1, 2, 1, 2), (0, 1, 1, 2), high=9)
(((0, 9), (0, 9), (0, 9)), ((0, 1, 1, 2), (1, 2, 1, 2)))

>>> from coupledyard.yards import path, span
>>> Y = (((0, 9), (0, 9), (0, 9)), ((0, 1, 1, 2), (1, 2, 1, 2)))
>>> (path(Y, 2, 0), span(Y, 0, 2), span(Y, 2, 1))
((2, 1, 0), (2, 4), (-2, -1))

>>> from coupledyard.arrangements import validate_arrangement
>>> Y = (((0, 9), (0, 9), (0, 9)), ((0, 1, 1, 2), (1, 2, 1, 2)))
>>> validate_arrangement(Y, (0, 1, 4))
raises InvalidArrangement('couplings', 1)

>>> from coupledyard.arrangements import distance, maximum, minimum, stretch
>>> Y = (((0, 9), (0, 9), (0, 9)), ((0, 1, 1, 2), (1, 2, 1, 2)))
>>> (minimum(Y, (0, 1, 3), (1, 2, 3)), maximum(Y, (0, 2, 3), (1, 2, 3)), distance(Y, (0, 1, 2), (3, 4, 6)), stretch(Y, (0, 1, 2), (3, 4, 6)))
((0, 1, 3), (1, 2, 3), 10, 4)

>>> from coupledyard.steps import possible_steps
>>> Y = (((0, 9), (0, 9), (0, 9)), ((0, 1, 1, 2), (1, 2, 1, 2)))
>>> possible_steps(Y, (0, 1, 2))
((2, 1),)

>>> from coupledyard.steps import reason
>>> Y = (((0, 9), (0, 9), (0, 9)), ((0, 1, 1, 2), (1, 2, 1, 2)))
>>> (reason(Y, (0, 1, 2), (0, 1)), reason(Y, (7, 8, 9), (0, 1)), reason(Y, (0, 1, 2), (2, 1)))
(((0, 1, 2), 'free'), ((0, 1, 2), 'wall'), None)

>>> from coupledyard.steps import after, states_along
>>> Y = (((0, 9), (0, 9), (0, 9)), ((0, 1, 1, 2), (1, 2, 1, 2)))
>>> (after(Y, (0, 1, 2), ((2, 1), (1, 1))), list(states_along(Y, (0, 1, 2), ((2, 1), (2, -1)))))
((0, 2, 3), [(0, 1, 3), (0, 1, 2)])

>>> from coupledyard.steps import after
>>> after((((0, 9), (0, 9), (0, 9)), ((0, 1, 1, 2), (1, 2, 1, 2))), (0, 1, 2), ((2, 1), (0, 1)))
raises Blocked(1)

>>> from coupledyard.steps import schedule_to
>>> Y = (((0, 9), (0, 9), (0, 9)), ((0, 1, 1, 2), (1, 2, 1, 2)))
>>> schedule_to(Y, (0, 1, 2), (1, 2, 3))
((2, 1), (1, 1), (0, 1))

>>> from coupledyard.rounds import straight_rounds, straight_states
>>> Y = (((0, 9), (0, 9), (0, 9)), ((0, 1, 1, 2), (1, 2, 1, 2)))
>>> (list(straight_rounds(Y, (0, 1, 2), (1, 3, 4))), list(straight_states(Y, (0, 2, 3), (0, 1, 2))))
([(1, 1, 1), (0, 1, 1)], [(0, 1, 2)])

>>> from coupledyard.pins import conflict_of, forced
>>> Y = (((0, 9), (0, 9), (0, 9)), ((0, 1, 1, 2), (1, 2, 1, 2)))
>>> (conflict_of(Y, ((0, 0), (2, 5))), conflict_of(Y, ((0, 8),)), conflict_of(Y, ()), forced(Y, ((0, 3),), 2))
((('pin', 2), ('pin', 0)), (('pin', 0), ('wall', 2)), None, (5, 7))

>>> from coupledyard.pins import greatest_completion, least_completion
>>> Y = (((0, 9), (0, 9), (0, 9)), ((0, 1, 1, 2), (1, 2, 1, 2)))
>>> (least_completion(Y, ((1, 5),)), greatest_completion(Y, ((1, 5),)), least_completion(Y, ()))
((3, 5, 6), (4, 5, 7), (0, 1, 2))

>>> from coupledyard.drags import dragged
>>> Y = (((0, 9), (0, 9), (0, 9)), ((0, 1, 1, 2), (1, 2, 1, 2)))
>>> (dragged(Y, (0, 1, 2), 2, 5), dragged(Y, (0, 1, 2), 0, 4), dragged(Y, (5, 6, 7), 1, 3))
((1, 3, 5), (4, 5, 6), (2, 3, 5))

>>> from coupledyard.drags import dragged
>>> dragged((((0, 9), (0, 9), (0, 9)), ((0, 1, 1, 2), (1, 2, 1, 2))), (0, 1, 2), 0, 8)
raises OutOfReach(2)

>>> from coupledyard.drags import pushed
>>> Y = (((0, 9), (0, 9), (0, 9)), ((0, 1, 1, 2), (1, 2, 1, 2)))
>>> (pushed(Y, (0, 1, 2), (0, 1)), pushed(Y, (0, 1, 3), (1, 1)), pushed(Y, (0, 2, 4), (2, 1)))
((0, 1, 2), (1,), (0, 1, 2))

>>> from coupledyard.nearest import cost, nearest
>>> Y = (((0, 9), (0, 9), (0, 9)), ((0, 1, 1, 2), (1, 2, 1, 2)))
>>> (nearest(Y, (0, 1, 2), pins=((2, 5),)), nearest(Y, (0, 5, 0)), nearest(Y, (0, 5, 0), weights=(1, 3, 1)))
((1, 3, 5), (0, 1, 2), (3, 5, 6))

>>> from coupledyard.nearest import cost
>>> Y = (((0, 9), (0, 9), (0, 9)), ((0, 1, 1, 2), (1, 2, 1, 2)))
>>> (cost(Y, (1, 3, 5), (0, 1, 2)), cost(Y, (3, 5, 6), (0, 5, 0), weights=(1, 3, 1)))
(6, 9)

>>> from coupledyard.nearest import check_forces, forces
>>> Y = (((0, 9), (0, 9), (0, 9)), ((0, 1, 1, 2), (1, 2, 1, 2)))
>>> (forces(Y, (0, 1, 2), pins=((2, 5),)), check_forces(Y, (1, 3, 5), (0, 1, 2), (-1, -2), pins=((2, 5),)))
((-1, -2), 6)

>>> from coupledyard.nearest import check_forces
>>> Y = (((0, 9), (0, 9), (0, 9)), ((0, 1, 1, 2), (1, 2, 1, 2)))
>>> check_forces(Y, (1, 3, 5), (0, 1, 2), (-1, 2), pins=((2, 5),))
raises NotHeld('couplings')

>>> from coupledyard.precedence import predecessors
>>> Y = (((0, 9), (0, 9), (0, 9)), ((0, 1, 1, 2), (1, 2, 1, 2)))
>>> list(predecessors(Y, (0, 1, 2), (1, 2, 3)))
[((0, 1), ((1, 1),)), ((1, 1), ((2, 1),)), ((2, 1), ())]

>>> from coupledyard.precedence import critical_chain, ends, finish
>>> Y = (((0, 9), (0, 9), (0, 9)), ((0, 1, 1, 2), (1, 2, 1, 2)))
>>> (ends(Y, (0, 1, 2), (1, 2, 3)), finish(Y, (0, 1, 2), (1, 2, 3), 5, 1, 1), critical_chain(Y, (0, 1, 2), (1, 2, 3)))
(((3,), (2,), (1,)), 7, ((2, 1), (1, 1), (0, 1)))

>>> from coupledyard.counting import arrangement_at, arrangements, count_arrangements, number_of
>>> Y = (((0, 9), (0, 9), (0, 9)), ((0, 1, 1, 2), (1, 2, 1, 2)))
>>> (count_arrangements(Y), arrangement_at(Y, 3), number_of(Y, (0, 2, 4)), list(arrangements(Y, pins=((1, 1),))))
(28, (0, 2, 4), 3, [(0, 1, 2), (0, 1, 3)])

>>> from coupledyard.links import Bar, Buffer, Chain, Link, yard_of
>>> yard_of(Bar(1, 2, 1), Chain(0, 1, 2), count=3, high=9)
(((0, 9), (0, 9), (0, 9)), ((0, 1, -2, 2), (1, 2, 1, 2)))

>>> from coupledyard.links import Buffer, Link
>>> (Buffer(0, 1, 4).coupling(), Link.opposite(Buffer(0, 1, 4)).coupling(), Buffer(0, 1, 4).kind, Link(0, 1, 2, 3).pair)
((0, 1, 4, 10000000000), (0, 1, -10000000000, -4), 'buffer', (0, 1))

>>> from coupledyard.texts import parse_yard, yard_text
>>> yard_text((((0, 9), (0, 9)), ((0, 1, -1, 2),)))
'wagon 0 9\\nwagon 0 9\\ncoupling 0 1 -1 2'

>>> from coupledyard.texts import parse_yard
>>> parse_yard('wagon 0 9\\ncoupling 0 1 1 2')
raises InvalidText(2)

>>> from coupledyard.trains import FullTrain
>>> train = FullTrain((((0, 9), (0, 9), (0, 9)), ((0, 1, 1, 2), (1, 2, 1, 2))))
>>> first = train.move((2, 1), (1, 1))
>>> second = train.drag(2, 6)
>>> third = train.trial((0, 1), (0, 1))
>>> (first, second, third, train.arrangement, train.work, train.counts, train.history)
((0, 2, 3), (0, 1, 2), ((0, 1), 'free'), (2, 4, 6), 9, ((2, 0), (3, 0), (4, 0)), (('move', ((2, 1), (1, 1)), 1), ('drag', 2, 6)))

>>> from coupledyard.trains import UndoingTrain
>>> train = UndoingTrain.read('wagon 0 9\\nwagon 0 9\\ncoupling 0 1 1 2', arrangement=(4, 5))
>>> first = train.move((1, 1), (0, 1), count=2)
>>> last = train.undo()
>>> (first, train.arrangement, train.work, train.history)
((6, 7), (4, 5), 8, ())
'''


def outcome(lines):
    """What the last of some lines gives, as the document writes it."""
    names = {}
    for line in lines[:-1]:
        exec(line, names)
    try:
        return repr(eval(lines[-1], names))
    except (YardError, YardStateError) as error:
        fields = ", ".join(repr(value) for value in vars(error).values())
        return f"raises {type(error).__name__}({fields})"


class ExamplesTest(unittest.TestCase):
    def test_examples(self):
        examples = EXAMPLES.strip().split("\n\n")
        self.assertEqual(len(examples), 29)
        for example in examples:
            with self.subTest(example):
                *lines, expected = example.split("\n")
                prompts = {line[:4] for line in lines}
                self.assertEqual(prompts, {">>> "})
                self.assertEqual(outcome([line[4:] for line in lines]), expected)


if __name__ == "__main__":
    unittest.main()
