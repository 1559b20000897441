"""Machines that write sign by sign, and what they write alike."""
