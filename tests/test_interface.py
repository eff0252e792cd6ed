"""All names of the interface are there, with their arguments in their order."""

import importlib
import inspect
import unittest

INTERFACE = {
    "words": ["is_name thing"],
    "sums": ["is_sum thing", "worth sum pockets"],
    "programs": ["is_program thing", "number_of program sort name", "rows_of program hand"],
    "showing": ["shown program"],
    "reading": ["read lines"],
    "seats": ["first_seat program hand", "rested program hand seat", "touch_of program hand seat", "seat_behind program hand seat value",
              "course program hand seat values", "goes_so program hand seat things"],
    "stands": ["first_stand program", "can_go program stand", "waits program stand", "is_stuck program stand"],
    "steps": ["may_go program stand hand", "gone program stand hand gift"],
    "runs": ["walked program stand run", "tables_of program stand run", "parted program stand run other", "history program stand run name"],
    "needs": ["needs program stand run"],
    "records": ["is_record program stand thing", "whole_record program stand run", "without_edge record edge", "without_gift record hand n"],
    "fitting": ["misfit program stand run record", "keeps program stand run record"],
    "aheads": ["aheads program stand run record", "is_ahead stand told one other"],
    "opens": ["open_of program stand run record", "is_enough program stand run record"],
    "least": ["spare program stand run record", "lessened program stand run record", "least_record program stand run"],
    "partings": ["parting program stand run record", "partings program stand run record"],
    "papers": ["is_paper program stand record thing", "paper_of program stand run record"],
    "rowfaults": ["row_fault program stand paper", "gift_fault stand record paper"],
    "markfaults": ["mark_fault program stand paper", "edge_fault stand record paper"],
    "givens": ["given_to program stand record paper hand number", "ahead_fault program stand record paper", "need_fault program stand paper"],
    "checker": ["lets program stand record paper"],
    "judging": ["judged program stand run record", "lets_parts program stand run record thing"],
    "cuts": ["counts_at stand run place", "is_cut program stand run record thing", "cut program stand run record counts"],
    "joins": ["joined program stand one other"],
    "recordtexts": ["record_lines record", "read_record lines"],
    "papertexts": ["paper_lines paper", "read_paper lines"],
    "leading": ["Lead program stand record", "Lead.can", "Lead.go hand", "Lead.back", "Lead.on", "Lead.to many", "Lead.made", "Lead.trail", "Lead.led picks",
                "Lead.waiting", "Lead.stand_now", "Lead.run_now"],
    "leftout": ["left_run run hands", "first_seen program stand run hands", "left_out program stand run hands", "lets_left program stand run hands thing"],
    "answers": ["shown_look look", "shown_run program run"],
    "desk": ["Desk lines", "Desk.say row"],
    "errors": ["NoProgram row word", "NoGo word", "NoRun place word", "NoFit place word", "NoPaper word hand number", "NoParts word", "NoCut word",
               "NoLines row"],
}


class Interface(unittest.TestCase):
    def test_names_and_arguments(self):
        for module, rows in INTERFACE.items():
            home = importlib.import_module(f"leastrecord.{module}")
            for row in rows:
                name, *asked = row.split(" ")
                one = home
                for part in name.split("."):
                    one = getattr(one, part)
                told = list(inspect.signature(one).parameters)
                # A name of Python's own can't be one of the program's arguments.
                asked = [{"sum": "tree"}.get(word, word) for word in asked]
                self.assertEqual([word for word in told if word != "self"], asked, (module, row))


if __name__ == "__main__":
    unittest.main()
