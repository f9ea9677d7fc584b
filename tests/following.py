"""Carries out plans rename by rename, and fails where one is not as the document promises."""

from tests import definitions


def follow(test, program, naming, plan, pool):
    """The naming after a plan whose renames are all safe and to names of the pool, as the definitions tell."""
    test.assertIs(type(plan), tuple)
    conflicts = definitions.conflicts(program)
    naming = list(naming)
    for index, pair in enumerate(plan):
        test.assertEqual([type(pair)] + [type(item) for item in pair], [tuple, int, str])
        declaration, name = pair
        test.assertIn(name, pool)
        test.assertNotEqual(naming[declaration], name, index)
        # What G1 says: validity itself would take long to check for each rename of a large program.
        blocking = [other for other, held in enumerate(naming) if held == name and (declaration, other) in conflicts]
        test.assertEqual(blocking, [], index)
        naming[declaration] = name
    test.assertTrue(definitions.valid(program, tuple(naming)))
    return tuple(naming)


def follow_by_validity(test, program, naming, plan, pool):
    """The naming after a plan during which every naming is valid and has only names of the pool."""
    for declaration, name in plan:
        test.assertIn(name, pool)
        test.assertTrue(definitions.safe(program, naming, declaration, name), (program, naming, declaration, name))
        naming = definitions.renamed(naming, declaration, name)
    return naming
