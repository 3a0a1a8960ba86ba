"""Shedbook: a log store with questions and forgetting by rule."""
