"""The tests of pairtells."""
