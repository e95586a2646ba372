"""Sides that are least in every world, and one grove that serves them all; see README.md."""
