"""Ringsums: sums that are handed round a ring."""
