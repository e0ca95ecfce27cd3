"""Twozeros: sums that carry round, with two zeros, told for all widths at once."""
