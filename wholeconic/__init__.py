"""Wholeconic: every whole-number point of curves of second degree."""
