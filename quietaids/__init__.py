"""Quiet aids: tells exactly whether a hearing aid whistles, and how loud its echo is."""
