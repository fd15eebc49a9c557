"""The tests of choosersrow."""
