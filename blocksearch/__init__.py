"""Blocksearch: the best pages for a question, found without looking at all, and shown."""
