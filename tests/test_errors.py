import unittest

from slitstairs import errors

ATTRIBUTES = {
    "NoColumn": ["column"],
    "NoSuch": ["number"],
    "BadSize": ["size"],
    "BadColumn": ["what"],
    "BadBoundary": ["boundary"],
    "BadHeights": ["index", "what"],
    "BadText": ["row", "what"],
    "BadCard": ["index", "what"],
    "BadPlace": ["column", "step"],
    "BadWidth": ["width"],
    "NoPanel": ["number"],
    "BadNest": ["index", "what"],
    "NotBehind": ["column", "boundary"],
    "NotBetween": ["column", "boundary"],
    "BadStack": ["index", "what"],
    "BadRatio": ["what"],
    "NoRatio": [],
    "BadSystem": ["index", "what"],
    "NoRow": ["row"],
    "NotGeared": ["one", "other", "what"],
    "BadKnown": ["index", "what"],
    "NotFollowing": ["rest"],
    "TooManyPanels": ["count"],
    "BadRates": ["index", "what"],
    "BadHold": ["panel", "what"],
    "BadPrint": ["index", "what"],
    "BadView": ["what"],
    "BadSlope": ["what"],
    "BadSide": ["index", "what"],
    "BadWish": ["what"],
    "NoWord": ["column"],
    "NotGranted": ["thing"],
    "UnlikeWish": ["what"],
    "NoWishPlace": ["place"],
    "WishesClash": ["place"],
    "BadMost": ["most"],
    "TooManySway": ["most"],
    "NoLayer": ["layer"],
    "BadRow": ["what"],
    "BadPages": ["index", "what"],
    "BadPull": ["what"],
    "BadStudio": ["what"],
    "Rests": ["number", "by"],
    "BadTable": ["index", "what"],
    "BadOrder": ["index", "what"],
    "TooEarly": ["index", "on"],
    "BadLot": ["what"],
    "NotBraced": ["what"],
    "BadStrip": ["index", "what"],
    "BadBook": ["index", "what"],
    "BadVerdict": ["verdict"],
    "BadChange": ["index", "what"],
    "BadPool": ["index", "what"],
}


class ErrorsTest(unittest.TestCase):
    def test_card_error_is_directly_under_value_error(self):
        self.assertEqual(errors.CardError.__bases__, (ValueError,))

    def test_each_error_is_directly_under_card_error(self):
        for name in ATTRIBUTES:
            with self.subTest(name):
                error = getattr(errors, name)
                self.assertEqual(error.__bases__, (errors.CardError,))
                self.assertEqual(error.__module__, "slitstairs.errors")

    def test_each_error_has_its_attributes_in_order_and_no_other(self):
        for name, attributes in ATTRIBUTES.items():
            with self.subTest(name):
                things = [[name, attribute] for attribute in attributes]
                error = getattr(errors, name)(*things)
                self.assertEqual(list(vars(error)), attributes)
                for attribute, thing in zip(attributes, things):
                    self.assertIs(getattr(error, attribute), thing)

    def test_the_attributes_are_the_names_of_the_arguments(self):
        for name, attributes in ATTRIBUTES.items():
            with self.subTest(name):
                error = getattr(errors, name)(**{attribute: attribute for attribute in attributes})
                self.assertEqual(vars(error), {attribute: attribute for attribute in attributes})

    def test_each_error_takes_just_its_arguments(self):
        for name, attributes in ATTRIBUTES.items():
            if attributes:
                with self.subTest(name), self.assertRaises(TypeError):
                    getattr(errors, name)(*attributes, "more")
                with self.subTest(name), self.assertRaises(TypeError):
                    getattr(errors, name)(*attributes[1:])

    def test_there_is_no_other_error(self):
        names = [name for name, thing in vars(errors).items() if isinstance(thing, type)]
        self.assertEqual(sorted(names), sorted([*ATTRIBUTES, "CardError"]))
