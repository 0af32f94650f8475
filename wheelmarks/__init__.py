"""Wheelmarks: a mill whose wheels nobody saw begin, and what is sure of their marks."""
