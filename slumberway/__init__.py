"""Slumberway: a language that works things out when they are asked, led back to its text."""
