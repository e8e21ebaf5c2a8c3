"""Heedwise: advisers heeded."""
