"""Dugdays: a suitcase that is packed in layers."""
