"""Markworks: sets of named marks, their texts, rules, editions and packs."""
