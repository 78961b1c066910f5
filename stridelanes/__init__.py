"""Stridelanes: what a kernel of many lanes does to memory."""
