"""Point 4: the errors, and what they carry."""

import unittest

from duepairs import errors

PLAIN = ["NoJob", "NoTask", "NoHour", "NoHours", "NoOrder", "NoStatement", "NotNarrow", "NoPlan",
         "Unlike", "NoRooms", "NoDeeds"]
TOLD = ["BadNeed", "BadDeed", "NoText"]


class Classes(unittest.TestCase):
    def test_job_error_is_directly_below_value_error(self):
        self.assertEqual(errors.JobError.__bases__, (ValueError,))

    def test_all_others_are_directly_below_job_error(self):
        for name in PLAIN + TOLD:
            with self.subTest(name=name):
                self.assertEqual(getattr(errors, name).__bases__, (errors.JobError,))
                self.assertEqual(getattr(errors, name).__name__, name)

    def test_none_is_below_another(self):
        classes = [getattr(errors, name) for name in PLAIN + TOLD]
        self.assertEqual(len(set(classes)), 14)
        for one in classes:
            for other in classes:
                self.assertEqual(issubclass(one, other), one is other)

    def test_there_are_no_further_errors(self):
        found = [name for name in vars(errors) if isinstance(getattr(errors, name), type)]
        self.assertEqual(sorted(found), sorted(PLAIN + TOLD + ["JobError"]))

    def test_they_are_defined_in_this_file(self):
        for name in PLAIN + TOLD + ["JobError"]:
            self.assertEqual(getattr(errors, name).__module__, "duepairs.errors")


class Attributes(unittest.TestCase):
    def test_the_plain_ones_have_no_attributes(self):
        for name in PLAIN:
            self.assertEqual(vars(getattr(errors, name)("told")), {})

    def test_bad_need_has_a_ring(self):
        self.assertEqual(vars(errors.BadNeed([0, 1])), {"ring": [0, 1]})
        self.assertEqual(vars(errors.BadNeed(None)), {"ring": None})

    def test_bad_need_keeps_the_ring_in_one_place_only(self):
        ring = [0, 1]
        self.assertFalse(any(told is ring for told in errors.BadNeed(ring).args))

    def test_bad_deed_has_a_place_and_a_kind(self):
        self.assertEqual(vars(errors.BadDeed(3, "NoTask")), {"place": 3, "kind": "NoTask"})
        self.assertEqual(vars(errors.BadDeed(0, None)), {"place": 0, "kind": None})

    def test_no_text_has_a_line(self):
        self.assertEqual(vars(errors.NoText(2)), {"line": 2})

    def test_all_have_a_message(self):
        for error in [errors.BadNeed(None), errors.BadDeed(0, None), errors.NoText(1)]:
            self.assertTrue(str(error))


if __name__ == "__main__":
    unittest.main()
