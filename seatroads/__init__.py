"""Seatroads: places, waiting lists and late truths."""
