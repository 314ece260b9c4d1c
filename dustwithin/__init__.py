"""Dustwithin: closed sets of numbers told by their own digits."""
