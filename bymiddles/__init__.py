"""Bymiddles: one order for works whose windows are told and whose lengths are not."""
