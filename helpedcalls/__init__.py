"""Helpedcalls: objects that threads share."""
