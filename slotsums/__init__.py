"""Slotsums: sums of products of tables, judged for all sizes."""
