"""Webs of one-way ties, their one-way cuts, and the fewest ties that meet them all."""
