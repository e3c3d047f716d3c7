"""Sparetrees: one stream heard whole by every place, whatever links are lost."""
