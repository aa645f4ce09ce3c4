"""The tests of heirstamps."""
