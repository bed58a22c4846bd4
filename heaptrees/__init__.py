"""Heaptrees: trees whose children stand in no order."""
