"""The tests of dittorows."""
