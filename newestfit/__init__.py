"""Newestfit: releases that fit together, the newest ones, or why none do."""
