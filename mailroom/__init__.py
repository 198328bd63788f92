"""Mailroom: letters, rules, folders, threads, and hands that work apart."""
