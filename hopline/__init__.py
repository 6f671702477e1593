"""Hopline: beads that hop along a row, met by weights."""
