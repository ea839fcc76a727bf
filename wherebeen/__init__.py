"""Wherebeen: documents that become what they become by where they have been."""
