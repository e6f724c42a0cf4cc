"""Cards of one sheet that stand when a page is opened."""
