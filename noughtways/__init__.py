"""Noughtways: products of tables that come to nought."""
