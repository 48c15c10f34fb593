import PyProof.Rows.All
import Wide.All
import OpenK.AllK
import Wide.FinOn
import HandS.NestedK
import KE.KStateDown
import HandS.Head0
import HandS.Head1
import HandS.Head2
import HandS.HeadHook4
import HandS.ForMost
import HandS.ForExc
import HandS.ExcInit
import HandS.Defaults
import HandS.HeadHook1
import HandS.HeadHook2
import HandS.HeadHook3
import HandS.IsInst
import HandS.ExcField
import HandS.Wide
import HandS.Walk
import HandS.StrMore
import HandS.Conv
import HandS.RaiseMore
import HandS.EndBits
import HandS.GenList
import HandS.GenYield
import HandS.DictComp
import HandS.Style
import KE.IntTextText
import HandS.SetKeys
import HandS.WordsDict
import HandS.TupSets
import KE.KeyNested
import HandS.SortOrd
import KE.KSortTupAny
import KE.KSortTup
import PyProof.TupleOfSeq
import OpenK.KOps
import HandS.CallLocal
import HandS.CallSlots
import KE.KExcIs
import HandS.Lambda
import HandS.HeadWalk
import PySem.Challenge.RW_sourceback_k05_imports_and_names_that_st
set_option Elab.async false
set_option linter.all false
set_option maxRecDepth 100000
set_option maxHeartbeats 2000000
/-! The statements of the top, their scopes. Written by gen_env.py. -/
namespace V5
open PySem PySem.Spec PyProof.Rows L2
abbrev PW : Program := PySem.Challenge.pw_sourceback_k05_imports_and_names_that_st
def top (i : Nat) : Stmt := PW.main.body.getD i (.Pass ⟨0, 0, 0, 0⟩)
abbrev s_literal_kind : Stmt := top 17
abbrev s_paths_of : Stmt := top 18
abbrev s_right_paths : Stmt := top 19
abbrev s_known_names : Stmt := top 22
abbrev s_givens : Stmt := top 24
abbrev s_body_within : Stmt := top 25
abbrev s_reads_item : Stmt := top 26
abbrev s_item_kind : Stmt := top 27
abbrev s_defined : Stmt := top 30
abbrev s_says : Stmt := top 31
abbrev s_patterns : Stmt := top 32
abbrev s_levels_of : Stmt := top 33
abbrev s_levels_from : Stmt := top 34
abbrev s_level_at : Stmt := top 35
abbrev s_first_expressed : Stmt := top 36
abbrev s_is_expression : Stmt := top 37
abbrev s_reads_at : Stmt := top 38
abbrev s_circle_faults : Stmt := top 40
abbrev s_possible_reads : Stmt := top 41
abbrev s_can_be_told : Stmt := top 42
abbrev s_field_faults : Stmt := top 49
abbrev s_given_faults_fields : Stmt := top 50
abbrev s_fits : Stmt := top 52
abbrev s_leads : Stmt := top 53
abbrev s_where_faults_fields : Stmt := top 54
abbrev s_is_name : Stmt := top 64
abbrev s_is_text : Stmt := top 65
abbrev s_is_file : Stmt := top 66
abbrev s_is_inner : Stmt := top 67
abbrev s_tokens : Stmt := top 68
abbrev s_next_start : Stmt := top 69
abbrev s_line_end : Stmt := top 70
abbrev s_token_end : Stmt := top 71
abbrev s_run_end : Stmt := top 72
abbrev s_string_end : Stmt := top 73
abbrev s_number_in : Stmt := top 77
abbrev s_tree_of : Stmt := top 79
abbrev s_kind_faults : Stmt := top 83
abbrev s_item_faults : Stmt := top 84
abbrev s_given_faults : Stmt := top 85
abbrev s_simple_faults : Stmt := top 87
abbrev s_where_faults : Stmt := top 88
abbrev s_import_faults : Stmt := top 91
abbrev s_repeated : Stmt := top 92
abbrev s_twice_faults : Stmt := top 93
abbrev s_brought_twice : Stmt := top 94
abbrev s_bodies_in : Stmt := top 95
abbrev s_hiding_loops : Stmt := top 96
abbrev s_name_faults : Stmt := top 97
abbrev s_template_marks : Stmt := top 98
abbrev s_ring_faults : Stmt := top 99
abbrev s_is_in_ring : Stmt := top 100
abbrev s_checked : Stmt := top 102
abbrev s_refuse : Stmt := top 103
abbrev s_all_layers : Stmt := top 104
abbrev s_are_files : Stmt := top 108
abbrev s_item_counts : Stmt := top 109
abbrev s__law_box : Stmt := top 111
abbrev s__law_take : Stmt := top 112
abbrev s__law_of : Stmt := top 113
abbrev s__law_put : Stmt := top 114
abbrev s__law_error : Stmt := top 115
abbrev s__law_files : Stmt := top 116
abbrev s__law_due : Stmt := top 117
abbrev s_law : Stmt := top 118
abbrev s_Mark : Stmt := top 2
abbrev s_Mark___init__ : Stmt := inClass s_Mark 0
abbrev s_FileTree : Stmt := top 3
abbrev s_FileTree___init__ : Stmt := inClass s_FileTree 0
abbrev s_FileTree_owners : Stmt := inClass s_FileTree 1
abbrev s_FileTree_stocks : Stmt := inClass s_FileTree 2
abbrev s_Owner : Stmt := top 4
abbrev s_Owner___init__ : Stmt := inClass s_Owner 0
abbrev s_Stock : Stmt := top 5
abbrev s_Stock___init__ : Stmt := inClass s_Stock 0
abbrev s_Stock_kinds : Stmt := inClass s_Stock 1
abbrev s_Column : Stmt := top 6
abbrev s_Column___init__ : Stmt := inClass s_Column 0
abbrev s_Body : Stmt := top 7
abbrev s_Body___init__ : Stmt := inClass s_Body 0
abbrev s_Entry : Stmt := top 8
abbrev s_Entry___init__ : Stmt := inClass s_Entry 0
abbrev s_Literal : Stmt := top 9
abbrev s_Literal___init__ : Stmt := inClass s_Literal 0
abbrev s_Path : Stmt := top 10
abbrev s_Path___init__ : Stmt := inClass s_Path 0
abbrev s_Term : Stmt := top 11
abbrev s_Term___init__ : Stmt := inClass s_Term 0
abbrev s_Sum : Stmt := top 12
abbrev s_Sum___init__ : Stmt := inClass s_Sum 0
abbrev s_Sum_paths : Stmt := inClass s_Sum 1
abbrev s_Choice : Stmt := top 13
abbrev s_Choice___init__ : Stmt := inClass s_Choice 0
abbrev s_Choice_paths : Stmt := inClass s_Choice 1
abbrev s_Record : Stmt := top 14
abbrev s_Record___init__ : Stmt := inClass s_Record 0
abbrev s_Loop : Stmt := top 15
abbrev s_Loop___init__ : Stmt := inClass s_Loop 0
abbrev s_Where : Stmt := top 16
abbrev s_Where___init__ : Stmt := inClass s_Where 0
abbrev s_Sources : Stmt := top 21
abbrev s_Sources___init__ : Stmt := inClass s_Sources 0
abbrev s_Sources_known_template : Stmt := inClass s_Sources 1
abbrev s_Sources_known_stock : Stmt := inClass s_Sources 2
abbrev s_Sources_owner_at : Stmt := inClass s_Sources 3
abbrev s_Sources_parent_of : Stmt := inClass s_Sources 4
abbrev s_Sources_base_of : Stmt := inClass s_Sources 5
abbrev s_Sources_used : Stmt := inClass s_Sources 6
abbrev s_Sources_inner : Stmt := inClass s_Sources 7
abbrev s_Sources_field_at : Stmt := inClass s_Sources 8
abbrev s_Given : Stmt := top 23
abbrev s_Given___init__ : Stmt := inClass s_Given 0
abbrev s_Given_field : Stmt := inClass s_Given 1
abbrev s_Level : Stmt := top 29
abbrev s_Level___init__ : Stmt := inClass s_Level 0
abbrev s_BackError : Stmt := top 44
abbrev s_BadFiles : Stmt := top 45
abbrev s_BadFiles___init__ : Stmt := inClass s_BadFiles 0
abbrev s_SourceError : Stmt := top 46
abbrev s_SourceError___init__ : Stmt := inClass s_SourceError 0
abbrev s_NoFile : Stmt := top 47
abbrev s_NoFile___init__ : Stmt := inClass s_NoFile 0
abbrev s_Parser : Stmt := top 80
abbrev s_Parser___init__ : Stmt := inClass s_Parser 0
abbrev s_Parser_here : Stmt := inClass s_Parser 1
abbrev s_Parser_token : Stmt := inClass s_Parser 2
abbrev s_Parser_take : Stmt := inClass s_Parser 3
abbrev s_Parser_refuse : Stmt := inClass s_Parser 4
abbrev s_Parser_expect : Stmt := inClass s_Parser 5
abbrev s_Parser_accepts : Stmt := inClass s_Parser 6
abbrev s_Parser_text_from : Stmt := inClass s_Parser 7
abbrev s_Parser_read_name : Stmt := inClass s_Parser 8
abbrev s_Parser_read_file : Stmt := inClass s_Parser 9
abbrev s_Parser_read_template : Stmt := inClass s_Parser 10
abbrev s_Parser_read_stock : Stmt := inClass s_Parser 11
abbrev s_Parser_read_columns : Stmt := inClass s_Parser 12
abbrev s_Parser_read_column : Stmt := inClass s_Parser 13
abbrev s_Parser_read_item : Stmt := inClass s_Parser 14
abbrev s_Parser_read_body : Stmt := inClass s_Parser 15
abbrev s_Parser_read_entry : Stmt := inClass s_Parser 16
abbrev s_Parser_read_value : Stmt := inClass s_Parser 17
abbrev s_Parser_read_record : Stmt := inClass s_Parser 18
abbrev s_Parser_read_loop : Stmt := inClass s_Parser 19
abbrev s_Parser_read_where : Stmt := inClass s_Parser 20
abbrev s_Parser_read_choice : Stmt := inClass s_Parser 21
abbrev s_Parser_read_simple : Stmt := inClass s_Parser 22
abbrev s_Parser_read_term : Stmt := inClass s_Parser 23
abbrev s_Parser_read_digits : Stmt := inClass s_Parser 24
abbrev s_Parser_read_literal : Stmt := inClass s_Parser 25
abbrev s_Parser_read_path : Stmt := inClass s_Parser 26
abbrev s_Kinds : Stmt := top 82
abbrev s_Kinds___init__ : Stmt := inClass s_Kinds 0
abbrev s_Kinds_of : Stmt := inClass s_Kinds 1
abbrev s_Kinds_path_kind : Stmt := inClass s_Kinds 2
abbrev s_Kinds_search : Stmt := inClass s_Kinds 3
abbrev s_Kinds_keep : Stmt := inClass s_Kinds 4
abbrev s_Kinds_candidates : Stmt := inClass s_Kinds 5
abbrev s_Kinds_told_by : Stmt := inClass s_Kinds 6
abbrev s_Project : Stmt := top 107
abbrev s_Project___init__ : Stmt := inClass s_Project 0
abbrev s_Project___getitem__ : Stmt := inClass s_Project 4
abbrev s_Project___iter__ : Stmt := inClass s_Project 5
abbrev s_Project___contains__ : Stmt := inClass s_Project 6
abbrev s_Project___len__ : Stmt := inClass s_Project 7
abbrev s_Project___eq__ : Stmt := inClass s_Project 8
abbrev s_Project_lists : Stmt := inClass s_Project 12
theorem sc_literal_kind : FnScope ["literal"] ["literal"] (defScope s_literal_kind) := ⟨rfl, rfl, rfl, by decide +kernel, rfl, by decide +kernel, by decide +kernel⟩
theorem sc_paths_of : FnScope ["value"] ["value"] (defScope s_paths_of) := ⟨rfl, rfl, rfl, by decide +kernel, rfl, by decide +kernel, by decide +kernel⟩
theorem sc_right_paths : FnScope ["where"] ["where"] (defScope s_right_paths) := ⟨rfl, rfl, rfl, by decide +kernel, rfl, by decide +kernel, by decide +kernel⟩
theorem sc_known_names : FnScope ["trees", "tree", "known", "found", "mark"] ["trees", "tree"] (defScope s_known_names) := ⟨rfl, rfl, rfl, by decide +kernel, rfl, by decide +kernel, by decide +kernel⟩
theorem sc_givens : FnScope ["sources", "owner", "found", "waiting", "body", "base", "loop", "entry", "given", "further"] ["sources", "owner"] (defScope s_givens) := ⟨rfl, rfl, rfl, by decide +kernel, rfl, by decide +kernel, by decide +kernel⟩
theorem sc_body_within : FnScope ["sources", "given", "value", "loop", "field"] ["sources", "given"] (defScope s_body_within) := ⟨rfl, rfl, rfl, by decide +kernel, rfl, by decide +kernel, by decide +kernel⟩
theorem sc_reads_item : FnScope ["loop", "path"] ["loop", "path"] (defScope s_reads_item) := ⟨rfl, rfl, rfl, by decide +kernel, rfl, by decide +kernel, by decide +kernel⟩
theorem sc_item_kind : FnScope ["sources", "owner", "loop", "path"] ["sources", "owner", "loop", "path"] (defScope s_item_kind) := ⟨rfl, rfl, rfl, by decide +kernel, rfl, by decide +kernel, by decide +kernel⟩
theorem sc_defined : FnScope ["owner", "path", "body", "value", "part", "entry"] ["owner", "path"] (defScope s_defined) := ⟨rfl, rfl, rfl, by decide +kernel, rfl, by decide +kernel, by decide +kernel⟩
theorem sc_says : FnScope ["owner", "path", "starred", "at", "part"] ["owner", "path"] (defScope s_says) := ⟨rfl, rfl, rfl, by decide +kernel, rfl, by decide +kernel, by decide +kernel⟩
theorem sc_patterns : FnScope ["sources", "file", "found", "waiting", "path", "base", "entry", "further"] ["sources", "file"] (defScope s_patterns) := ⟨rfl, rfl, rfl, by decide +kernel, rfl, by decide +kernel, by decide +kernel⟩
theorem sc_levels_of : FnScope ["sources", "file", "pattern"] ["sources", "file", "pattern"] (defScope s_levels_of) := ⟨rfl, rfl, rfl, by decide +kernel, rfl, by decide +kernel, by decide +kernel⟩
theorem sc_levels_from : FnScope ["sources", "owner", "pattern", "found", "home", "path"] ["sources", "owner", "pattern"] (defScope s_levels_from) := ⟨rfl, rfl, rfl, by decide +kernel, rfl, by decide +kernel, by decide +kernel⟩
theorem sc_level_at : FnScope ["sources", "owner", "path", "home", "loop"] ["sources", "owner", "path", "home"] (defScope s_level_at) := ⟨rfl, rfl, rfl, by decide +kernel, rfl, by decide +kernel, by decide +kernel⟩
theorem sc_first_expressed : FnScope ["levels", "found", "level"] ["levels"] (defScope s_first_expressed) := ⟨rfl, rfl, rfl, by decide +kernel, rfl, by decide +kernel, by decide +kernel⟩
theorem sc_is_expression : FnScope ["value"] ["value"] (defScope s_is_expression) := ⟨rfl, rfl, rfl, by decide +kernel, rfl, by decide +kernel, by decide +kernel⟩
theorem sc_reads_at : FnScope ["level", "path", "paths", "read"] ["level", "path", "paths"] (defScope s_reads_at) := ⟨rfl, rfl, rfl, by decide +kernel, rfl, by decide +kernel, by decide +kernel⟩
theorem sc_circle_faults : FnScope ["layers", "tree", "read_by", "unread", "file", "pattern", "levels", "reads", "read"] ["layers", "tree"] (defScope s_circle_faults) := ⟨rfl, rfl, rfl, by decide +kernel, rfl, by decide +kernel, by decide +kernel⟩
theorem sc_possible_reads : FnScope ["levels", "pattern", "level"] ["levels", "pattern"] (defScope s_possible_reads) := ⟨rfl, rfl, rfl, by decide +kernel, rfl, by decide +kernel, by decide +kernel⟩
theorem sc_can_be_told : FnScope ["unread", "read_by", "left", "pattern", "ready", "told", "reader"] ["unread", "read_by"] (defScope s_can_be_told) := ⟨rfl, rfl, rfl, by decide +kernel, rfl, by decide +kernel, by decide +kernel⟩
theorem sc_field_faults : FnScope ["sources", "tree", "faults", "stock", "kinds", "item", "entry", "owner", "given"] ["sources", "tree"] (defScope s_field_faults) := ⟨rfl, rfl, rfl, by decide +kernel, rfl, by decide +kernel, by decide +kernel⟩
theorem sc_given_faults_fields : FnScope ["sources", "owner", "given", "value", "faults", "path"] ["sources", "owner", "given"] (defScope s_given_faults_fields) := ⟨rfl, rfl, rfl, by decide +kernel, rfl, by decide +kernel, by decide +kernel⟩
theorem sc_fits : FnScope ["field", "value"] ["field", "value"] (defScope s_fits) := ⟨rfl, rfl, rfl, by decide +kernel, rfl, by decide +kernel, by decide +kernel⟩
theorem sc_leads : FnScope ["sources", "owner", "loop", "path"] ["sources", "owner", "loop", "path"] (defScope s_leads) := ⟨rfl, rfl, rfl, by decide +kernel, rfl, by decide +kernel, by decide +kernel⟩
theorem sc_where_faults_fields : FnScope ["sources", "owner", "loop", "left", "faults", "path"] ["sources", "owner", "loop"] (defScope s_where_faults_fields) := ⟨rfl, rfl, rfl, by decide +kernel, rfl, by decide +kernel, by decide +kernel⟩
theorem sc_is_name : FnScope ["value", "letter"] ["value"] (defScope s_is_name) := ⟨rfl, rfl, rfl, by decide +kernel, rfl, by decide +kernel, by decide +kernel⟩
theorem sc_is_text : FnScope ["value", "sign"] ["value"] (defScope s_is_text) := ⟨rfl, rfl, rfl, by decide +kernel, rfl, by decide +kernel, by decide +kernel⟩
theorem sc_is_file : FnScope ["value"] ["value"] (defScope s_is_file) := ⟨rfl, rfl, rfl, by decide +kernel, rfl, by decide +kernel, by decide +kernel⟩
theorem sc_is_inner : FnScope ["sign"] ["sign"] (defScope s_is_inner) := ⟨rfl, rfl, rfl, by decide +kernel, rfl, by decide +kernel, by decide +kernel⟩
theorem sc_next_start : FnScope ["text", "at"] ["text", "at"] (defScope s_next_start) := ⟨rfl, rfl, rfl, by decide +kernel, rfl, by decide +kernel, by decide +kernel⟩
theorem sc_line_end : FnScope ["text", "at", "end"] ["text", "at"] (defScope s_line_end) := ⟨rfl, rfl, rfl, by decide +kernel, rfl, by decide +kernel, by decide +kernel⟩
theorem sc_token_end : FnScope ["text", "start", "sign", "end"] ["text", "start"] (defScope s_token_end) := ⟨rfl, rfl, rfl, by decide +kernel, rfl, by decide +kernel, by decide +kernel⟩
theorem sc_run_end : FnScope ["text", "at", "letters"] ["text", "at", "letters"] (defScope s_run_end) := ⟨rfl, rfl, rfl, by decide +kernel, rfl, by decide +kernel, by decide +kernel⟩
theorem sc_string_end : FnScope ["text", "start", "at"] ["text", "start"] (defScope s_string_end) := ⟨rfl, rfl, rfl, by decide +kernel, rfl, by decide +kernel, by decide +kernel⟩
theorem sc_number_in : FnScope ["digits", "end", "number"] ["digits"] (defScope s_number_in) := ⟨rfl, rfl, rfl, by decide +kernel, rfl, by decide +kernel, by decide +kernel⟩
theorem sc_tree_of : FnScope ["file", "text"] ["file", "text"] (defScope s_tree_of) := ⟨rfl, rfl, rfl, by decide +kernel, rfl, by decide +kernel, by decide +kernel⟩
theorem sc_kind_faults : FnScope ["sources", "kinds", "tree", "faults", "stock", "item", "owner", "given"] ["sources", "kinds", "tree"] (defScope s_kind_faults) := ⟨rfl, rfl, rfl, by decide +kernel, rfl, by decide +kernel, by decide +kernel⟩
theorem sc_item_faults : FnScope ["needed", "item", "faults", "name", "entry"] ["needed", "item"] (defScope s_item_faults) := ⟨rfl, rfl, rfl, by decide +kernel, rfl, by decide +kernel, by decide +kernel⟩
theorem sc_given_faults : FnScope ["kinds", "owner", "given", "value", "needed", "faults", "side"] ["kinds", "owner", "given"] (defScope s_given_faults) := ⟨rfl, rfl, rfl, by decide +kernel, rfl, by decide +kernel, by decide +kernel⟩
theorem sc_simple_faults : FnScope ["kinds", "owner", "loop", "value", "needed", "found", "path", "kind"] ["kinds", "owner", "loop", "value", "needed"] (defScope s_simple_faults) := ⟨rfl, rfl, rfl, by decide +kernel, rfl, by decide +kernel, by decide +kernel⟩
theorem sc_where_faults : FnScope ["kinds", "owner", "loop", "right", "found"] ["kinds", "owner", "loop"] (defScope s_where_faults) := ⟨rfl, rfl, rfl, by decide +kernel, rfl, by decide +kernel, by decide +kernel⟩
theorem sc_import_faults : FnScope ["trees", "tree", "faults", "mark"] ["trees", "tree"] (defScope s_import_faults) := ⟨rfl, rfl, rfl, by decide +kernel, rfl, by decide +kernel, by decide +kernel⟩
theorem sc_repeated : FnScope ["marks", "faults", "seen", "mark"] ["marks"] (defScope s_repeated) := ⟨rfl, rfl, rfl, by decide +kernel, rfl, by decide +kernel, by decide +kernel⟩
theorem sc_twice_faults : FnScope ["trees", "tree", "faults", "stock", "item", "owner", "body"] ["trees", "tree"] (defScope s_twice_faults) := ⟨rfl, rfl, rfl, by decide +kernel, rfl, by decide +kernel, by decide +kernel⟩
theorem sc_brought_twice : FnScope ["trees", "tree", "faults", "known", "found", "mark", "brought", "name"] ["trees", "tree"] (defScope s_brought_twice) := ⟨rfl, rfl, rfl, by decide +kernel, rfl, by decide +kernel, by decide +kernel⟩
theorem sc_bodies_in : FnScope ["body", "found", "waiting", "entry", "value", "further"] ["body"] (defScope s_bodies_in) := ⟨rfl, rfl, rfl, by decide +kernel, rfl, by decide +kernel, by decide +kernel⟩
theorem sc_hiding_loops : FnScope ["body", "loops", "entry", "loop"] ["body"] (defScope s_hiding_loops) := ⟨rfl, rfl, rfl, by decide +kernel, rfl, by decide +kernel, by decide +kernel⟩
theorem sc_name_faults : FnScope ["sources", "tree", "faults", "owner", "mark", "entry"] ["sources", "tree"] (defScope s_name_faults) := ⟨rfl, rfl, rfl, by decide +kernel, rfl, by decide +kernel, by decide +kernel⟩
theorem sc_template_marks : FnScope ["owner", "marks", "entry"] ["owner"] (defScope s_template_marks) := ⟨rfl, rfl, rfl, by decide +kernel, rfl, by decide +kernel, by decide +kernel⟩
theorem sc_ring_faults : FnScope ["sources", "tree", "owner"] ["sources", "tree"] (defScope s_ring_faults) := ⟨rfl, rfl, rfl, by decide +kernel, rfl, by decide +kernel, by decide +kernel⟩
theorem sc_is_in_ring : FnScope ["sources", "start", "seen", "waiting", "owner", "mark", "used"] ["sources", "start"] (defScope s_is_in_ring) := ⟨rfl, rfl, rfl, by decide +kernel, rfl, by decide +kernel, by decide +kernel⟩
theorem sc_checked : FnScope ["files", "trees", "name", "text", "by_name", "tree", "sources", "kinds"] ["files"] (defScope s_checked) := ⟨rfl, rfl, rfl, by decide +kernel, rfl, by decide +kernel, by decide +kernel⟩
theorem sc_refuse : FnScope ["word", "trees", "faults", "tree", "indexes"] ["word", "trees", "faults"] (defScope s_refuse) := ⟨rfl, rfl, rfl, by decide +kernel, rfl, by decide +kernel, by decide +kernel⟩
theorem sc_all_layers : FnScope ["sources", "layers", "file", "tree", "pattern"] ["sources"] (defScope s_all_layers) := ⟨rfl, rfl, rfl, by decide +kernel, rfl, by decide +kernel, by decide +kernel⟩
theorem sc_are_files : FnScope ["value", "file", "name", "_"] ["value"] (defScope s_are_files) := ⟨rfl, rfl, rfl, by decide +kernel, rfl, by decide +kernel, by decide +kernel⟩
theorem sc_item_counts : FnScope ["sources", "counts", "file", "tree", "stock"] ["sources"] (defScope s_item_counts) := ⟨rfl, rfl, rfl, by decide +kernel, rfl, by decide +kernel, by decide +kernel⟩
theorem sc__law_box : FnScope ["_law_script", "_law_k", "_law_digits", "_law_own"] ["_law_script", "_law_k"] (defScope s__law_box) := ⟨rfl, rfl, rfl, by decide +kernel, rfl, by decide +kernel, by decide +kernel⟩
theorem sc__law_take : FnScope ["_law_box_here", "_law_many", "_law_digit", "_law_mixed"] ["_law_box_here", "_law_many"] (defScope s__law_take) := ⟨rfl, rfl, rfl, by decide +kernel, rfl, by decide +kernel, by decide +kernel⟩
theorem sc__law_of : FnScope ["_law_box_here", "_law_some"] ["_law_box_here", "_law_some"] (defScope s__law_of) := ⟨rfl, rfl, rfl, by decide +kernel, rfl, by decide +kernel, by decide +kernel⟩
theorem sc__law_put : FnScope ["_law_state", "_law_part", "_law_at"] ["_law_state", "_law_part"] (defScope s__law_put) := ⟨rfl, rfl, rfl, by decide +kernel, rfl, by decide +kernel, by decide +kernel⟩
theorem sc__law_error : FnScope ["_law_ask", "_law_caught", "_law_told", "error"] ["_law_ask"] (defScope s__law_error) := ⟨rfl, rfl, rfl, by decide +kernel, rfl, by decide +kernel, by decide +kernel⟩
theorem sc__law_files : FnScope ["_law_box_here", "_law_some", "_law_found", "_law_pages", "_law_name", "_law_state", "_law_ahead", "_law_own", "_law_turn", "_law_other", "_law_word", "_law_sort_of"] ["_law_box_here"] (defScope s__law_files) := ⟨rfl, rfl, rfl, by decide +kernel, rfl, by decide +kernel, by decide +kernel⟩
theorem sc__law_due : FnScope ["_law_found", "_law_names", "_law_name", "_law_ahead", "_law_own", "_law_known", "_law_at", "_law_other", "_law_owns", "_law_word", "_law_wrong"] ["_law_found"] (defScope s__law_due) := ⟨rfl, rfl, rfl, by decide +kernel, rfl, by decide +kernel, by decide +kernel⟩
theorem sc_law : FnScope ["_law_script", "_law_k", "_law_box_here", "_law_turn", "_law_found", "_law_pages", "_law_due_here", "_law_given", "_law_told"] ["_law_script"] (defScope s_law) := ⟨rfl, rfl, rfl, by decide +kernel, rfl, by decide +kernel, by decide +kernel⟩
theorem sc_Mark___init__ : FnScope ["self", "index", "name"] ["self", "index", "name"] (defScope s_Mark___init__) := ⟨rfl, rfl, rfl, by decide +kernel, rfl, by decide +kernel, by decide +kernel⟩
theorem sc_FileTree___init__ : FnScope ["self", "name"] ["self", "name"] (defScope s_FileTree___init__) := ⟨rfl, rfl, rfl, by decide +kernel, rfl, by decide +kernel, by decide +kernel⟩
theorem sc_FileTree_owners : FnScope ["self", "templates", "owner"] ["self"] (defScope s_FileTree_owners) := ⟨rfl, rfl, rfl, by decide +kernel, rfl, by decide +kernel, by decide +kernel⟩
theorem sc_FileTree_stocks : FnScope ["self", "stock"] ["self"] (defScope s_FileTree_stocks) := ⟨rfl, rfl, rfl, by decide +kernel, rfl, by decide +kernel, by decide +kernel⟩
theorem sc_Owner___init__ : FnScope ["self", "file", "mark", "parent", "body"] ["self", "file", "mark", "parent", "body"] (defScope s_Owner___init__) := ⟨rfl, rfl, rfl, by decide +kernel, rfl, by decide +kernel, by decide +kernel⟩
theorem sc_Stock___init__ : FnScope ["self", "file", "mark", "columns", "goods"] ["self", "file", "mark", "columns", "goods"] (defScope s_Stock___init__) := ⟨rfl, rfl, rfl, by decide +kernel, rfl, by decide +kernel, by decide +kernel⟩
theorem sc_Stock_kinds : FnScope ["self", "column"] ["self"] (defScope s_Stock_kinds) := ⟨rfl, rfl, rfl, by decide +kernel, rfl, by decide +kernel, by decide +kernel⟩
theorem sc_Column___init__ : FnScope ["self", "mark", "kind"] ["self", "mark", "kind"] (defScope s_Column___init__) := ⟨rfl, rfl, rfl, by decide +kernel, rfl, by decide +kernel, by decide +kernel⟩
theorem sc_Body___init__ : FnScope ["self", "index", "declaring", "entries", "entry"] ["self", "index", "declaring", "entries"] (defScope s_Body___init__) := ⟨rfl, rfl, rfl, by decide +kernel, rfl, by decide +kernel, by decide +kernel⟩
theorem sc_Entry___init__ : FnScope ["self", "mark", "hidden", "value"] ["self", "mark", "hidden", "value"] (defScope s_Entry___init__) := ⟨rfl, rfl, rfl, by decide +kernel, rfl, by decide +kernel, by decide +kernel⟩
theorem sc_Literal___init__ : FnScope ["self", "index", "worth"] ["self", "index", "worth"] (defScope s_Literal___init__) := ⟨rfl, rfl, rfl, by decide +kernel, rfl, by decide +kernel, by decide +kernel⟩
theorem sc_Path___init__ : FnScope ["self", "index", "parts"] ["self", "index", "parts"] (defScope s_Path___init__) := ⟨rfl, rfl, rfl, by decide +kernel, rfl, by decide +kernel, by decide +kernel⟩
theorem sc_Term___init__ : FnScope ["self", "factor", "path"] ["self", "factor", "path"] (defScope s_Term___init__) := ⟨rfl, rfl, rfl, by decide +kernel, rfl, by decide +kernel, by decide +kernel⟩
theorem sc_Sum___init__ : FnScope ["self", "index", "words", "terms", "alone"] ["self", "index", "words", "terms", "alone"] (defScope s_Sum___init__) := ⟨rfl, rfl, rfl, by decide +kernel, rfl, by decide +kernel, by decide +kernel⟩
theorem sc_Sum_paths : FnScope ["self", "term"] ["self"] (defScope s_Sum_paths) := ⟨rfl, rfl, rfl, by decide +kernel, rfl, by decide +kernel, by decide +kernel⟩
theorem sc_Choice___init__ : FnScope ["self", "index", "words", "compared", "sides"] ["self", "index", "words", "compared", "sides"] (defScope s_Choice___init__) := ⟨rfl, rfl, rfl, by decide +kernel, rfl, by decide +kernel, by decide +kernel⟩
theorem sc_Choice_paths : FnScope ["self", "found", "side"] ["self"] (defScope s_Choice_paths) := ⟨rfl, rfl, rfl, by decide +kernel, rfl, by decide +kernel, by decide +kernel⟩
theorem sc_Record___init__ : FnScope ["self", "template", "body"] ["self", "template", "body"] (defScope s_Record___init__) := ⟨rfl, rfl, rfl, by decide +kernel, rfl, by decide +kernel, by decide +kernel⟩
theorem sc_Loop___init__ : FnScope ["self", "item", "stock", "where", "record"] ["self", "item", "stock", "where", "record"] (defScope s_Loop___init__) := ⟨rfl, rfl, rfl, by decide +kernel, rfl, by decide +kernel, by decide +kernel⟩
theorem sc_Where___init__ : FnScope ["self", "words", "left", "right"] ["self", "words", "left", "right"] (defScope s_Where___init__) := ⟨rfl, rfl, rfl, by decide +kernel, rfl, by decide +kernel, by decide +kernel⟩
theorem sc_Sources___init__ : FnScope ["self", "trees", "tree"] ["self", "trees"] (defScope s_Sources___init__) := ⟨rfl, rfl, rfl, by decide +kernel, rfl, by decide +kernel, by decide +kernel⟩
theorem sc_Sources_known_template : FnScope ["self", "file", "name", "found"] ["self", "file", "name"] (defScope s_Sources_known_template) := ⟨rfl, rfl, rfl, by decide +kernel, rfl, by decide +kernel, by decide +kernel⟩
theorem sc_Sources_known_stock : FnScope ["self", "file", "name", "found"] ["self", "file", "name"] (defScope s_Sources_known_stock) := ⟨rfl, rfl, rfl, by decide +kernel, rfl, by decide +kernel, by decide +kernel⟩
theorem sc_Sources_owner_at : FnScope ["self", "file", "name", "tree", "found"] ["self", "file", "name"] (defScope s_Sources_owner_at) := ⟨rfl, rfl, rfl, by decide +kernel, rfl, by decide +kernel, by decide +kernel⟩
theorem sc_Sources_parent_of : FnScope ["self", "owner"] ["self", "owner"] (defScope s_Sources_parent_of) := ⟨rfl, rfl, rfl, by decide +kernel, rfl, by decide +kernel, by decide +kernel⟩
theorem sc_Sources_base_of : FnScope ["self", "owner"] ["self", "owner"] (defScope s_Sources_base_of) := ⟨rfl, rfl, rfl, by decide +kernel, rfl, by decide +kernel, by decide +kernel⟩
theorem sc_Sources_used : FnScope ["self", "base", "entry"] ["self", "base", "entry"] (defScope s_Sources_used) := ⟨rfl, rfl, rfl, by decide +kernel, rfl, by decide +kernel, by decide +kernel⟩
theorem sc_Sources_inner : FnScope ["self", "base", "entry"] ["self", "base", "entry"] (defScope s_Sources_inner) := ⟨rfl, rfl, rfl, by decide +kernel, rfl, by decide +kernel, by decide +kernel⟩
theorem sc_Sources_field_at : FnScope ["self", "owner", "parts", "base", "part", "entry"] ["self", "owner", "parts"] (defScope s_Sources_field_at) := ⟨rfl, rfl, rfl, by decide +kernel, rfl, by decide +kernel, by decide +kernel⟩
theorem sc_Given___init__ : FnScope ["self", "entry", "base", "loop", "declares"] ["self", "entry", "base", "loop", "declares"] (defScope s_Given___init__) := ⟨rfl, rfl, rfl, by decide +kernel, rfl, by decide +kernel, by decide +kernel⟩
theorem sc_Given_field : FnScope ["self"] ["self"] (defScope s_Given_field) := ⟨rfl, rfl, rfl, by decide +kernel, rfl, by decide +kernel, by decide +kernel⟩
theorem sc_Level___init__ : FnScope ["self", "owner", "path", "home", "shows"] ["self", "owner", "path", "home", "shows"] (defScope s_Level___init__) := ⟨rfl, rfl, rfl, by decide +kernel, rfl, by decide +kernel, by decide +kernel⟩
theorem sc_BadFiles___init__ : FnScope ["self", "value"] ["self", "value"] (defScope s_BadFiles___init__) := ⟨rfl, rfl, rfl, by decide +kernel, rfl, by decide +kernel, by decide +kernel⟩
theorem sc_SourceError___init__ : FnScope ["self", "word", "file", "index"] ["self", "word", "file", "index"] (defScope s_SourceError___init__) := ⟨rfl, rfl, rfl, by decide +kernel, rfl, by decide +kernel, by decide +kernel⟩
theorem sc_NoFile___init__ : FnScope ["self", "value"] ["self", "value"] (defScope s_NoFile___init__) := ⟨rfl, rfl, rfl, by decide +kernel, rfl, by decide +kernel, by decide +kernel⟩
theorem sc_Parser___init__ : FnScope ["self", "file", "text", "last", "end"] ["self", "file", "text"] (defScope s_Parser___init__) := ⟨rfl, rfl, rfl, by decide +kernel, rfl, by decide +kernel, by decide +kernel⟩
theorem sc_Parser_here : FnScope ["self"] ["self"] (defScope s_Parser_here) := ⟨rfl, rfl, rfl, by decide +kernel, rfl, by decide +kernel, by decide +kernel⟩
theorem sc_Parser_token : FnScope ["self"] ["self"] (defScope s_Parser_token) := ⟨rfl, rfl, rfl, by decide +kernel, rfl, by decide +kernel, by decide +kernel⟩
theorem sc_Parser_take : FnScope ["self", "token"] ["self"] (defScope s_Parser_take) := ⟨rfl, rfl, rfl, by decide +kernel, rfl, by decide +kernel, by decide +kernel⟩
theorem sc_Parser_refuse : FnScope ["self", "word"] ["self"] (defScope s_Parser_refuse) := ⟨rfl, rfl, rfl, by decide +kernel, rfl, by decide +kernel, by decide +kernel⟩
theorem sc_Parser_expect : FnScope ["self", "token"] ["self", "token"] (defScope s_Parser_expect) := ⟨rfl, rfl, rfl, by decide +kernel, rfl, by decide +kernel, by decide +kernel⟩
theorem sc_Parser_accepts : FnScope ["self", "token"] ["self", "token"] (defScope s_Parser_accepts) := ⟨rfl, rfl, rfl, by decide +kernel, rfl, by decide +kernel, by decide +kernel⟩
theorem sc_Parser_text_from : FnScope ["self", "start", "_", "token"] ["self", "start"] (defScope s_Parser_text_from) := ⟨rfl, rfl, rfl, by decide +kernel, rfl, by decide +kernel, by decide +kernel⟩
theorem sc_Parser_read_name : FnScope ["self"] ["self"] (defScope s_Parser_read_name) := ⟨rfl, rfl, rfl, by decide +kernel, rfl, by decide +kernel, by decide +kernel⟩
theorem sc_Parser_read_file : FnScope ["self", "tree", "mark"] ["self"] (defScope s_Parser_read_file) := ⟨rfl, rfl, rfl, by decide +kernel, rfl, by decide +kernel, by decide +kernel⟩
theorem sc_Parser_read_template : FnScope ["self", "mark", "parent"] ["self"] (defScope s_Parser_read_template) := ⟨rfl, rfl, rfl, by decide +kernel, rfl, by decide +kernel, by decide +kernel⟩
theorem sc_Parser_read_stock : FnScope ["self", "mark", "columns", "goods"] ["self"] (defScope s_Parser_read_stock) := ⟨rfl, rfl, rfl, by decide +kernel, rfl, by decide +kernel, by decide +kernel⟩
theorem sc_Parser_read_columns : FnScope ["self", "columns"] ["self"] (defScope s_Parser_read_columns) := ⟨rfl, rfl, rfl, by decide +kernel, rfl, by decide +kernel, by decide +kernel⟩
theorem sc_Parser_read_column : FnScope ["self", "mark"] ["self"] (defScope s_Parser_read_column) := ⟨rfl, rfl, rfl, by decide +kernel, rfl, by decide +kernel, by decide +kernel⟩
theorem sc_Parser_read_item : FnScope ["self", "index", "entries", "mark"] ["self"] (defScope s_Parser_read_item) := ⟨rfl, rfl, rfl, by decide +kernel, rfl, by decide +kernel, by decide +kernel⟩
theorem sc_Parser_read_body : FnScope ["self", "declaring", "index", "entries"] ["self", "declaring"] (defScope s_Parser_read_body) := ⟨rfl, rfl, rfl, by decide +kernel, rfl, by decide +kernel, by decide +kernel⟩
theorem sc_Parser_read_entry : FnScope ["self", "declaring", "hidden", "mark"] ["self", "declaring"] (defScope s_Parser_read_entry) := ⟨rfl, rfl, rfl, by decide +kernel, rfl, by decide +kernel, by decide +kernel⟩
theorem sc_Parser_read_value : FnScope ["self", "declaring", "hidden", "token"] ["self", "declaring", "hidden"] (defScope s_Parser_read_value) := ⟨rfl, rfl, rfl, by decide +kernel, rfl, by decide +kernel, by decide +kernel⟩
theorem sc_Parser_read_record : FnScope ["self", "word", "template"] ["self", "word"] (defScope s_Parser_read_record) := ⟨rfl, rfl, rfl, by decide +kernel, rfl, by decide +kernel, by decide +kernel⟩
theorem sc_Parser_read_loop : FnScope ["self", "mark", "stock", "where"] ["self"] (defScope s_Parser_read_loop) := ⟨rfl, rfl, rfl, by decide +kernel, rfl, by decide +kernel, by decide +kernel⟩
theorem sc_Parser_read_where : FnScope ["self", "start", "left", "right"] ["self"] (defScope s_Parser_read_where) := ⟨rfl, rfl, rfl, by decide +kernel, rfl, by decide +kernel, by decide +kernel⟩
theorem sc_Parser_read_choice : FnScope ["self", "start", "index", "path", "literal", "first", "second"] ["self"] (defScope s_Parser_read_choice) := ⟨rfl, rfl, rfl, by decide +kernel, rfl, by decide +kernel, by decide +kernel⟩
theorem sc_Parser_read_simple : FnScope ["self", "start", "index", "terms", "term", "alone"] ["self"] (defScope s_Parser_read_simple) := ⟨rfl, rfl, rfl, by decide +kernel, rfl, by decide +kernel, by decide +kernel⟩
theorem sc_Parser_read_term : FnScope ["self", "sign", "number"] ["self", "sign"] (defScope s_Parser_read_term) := ⟨rfl, rfl, rfl, by decide +kernel, rfl, by decide +kernel, by decide +kernel⟩
theorem sc_Parser_read_digits : FnScope ["self"] ["self"] (defScope s_Parser_read_digits) := ⟨rfl, rfl, rfl, by decide +kernel, rfl, by decide +kernel, by decide +kernel⟩
theorem sc_Parser_read_literal : FnScope ["self", "index", "sign"] ["self"] (defScope s_Parser_read_literal) := ⟨rfl, rfl, rfl, by decide +kernel, rfl, by decide +kernel, by decide +kernel⟩
theorem sc_Parser_read_path : FnScope ["self", "mark", "parts"] ["self"] (defScope s_Parser_read_path) := ⟨rfl, rfl, rfl, by decide +kernel, rfl, by decide +kernel, by decide +kernel⟩
theorem sc_Kinds___init__ : FnScope ["self", "sources"] ["self", "sources"] (defScope s_Kinds___init__) := ⟨rfl, rfl, rfl, by decide +kernel, rfl, by decide +kernel, by decide +kernel⟩
theorem sc_Kinds_of : FnScope ["self", "base", "entry", "field"] ["self", "base", "entry"] (defScope s_Kinds_of) := ⟨rfl, rfl, rfl, by decide +kernel, rfl, by decide +kernel, by decide +kernel⟩
theorem sc_Kinds_path_kind : FnScope ["self", "owner", "loop", "path", "base", "entry"] ["self", "owner", "loop", "path"] (defScope s_Kinds_path_kind) := ⟨rfl, rfl, rfl, by decide +kernel, rfl, by decide +kernel, by decide +kernel⟩
theorem sc_Kinds_search : FnScope ["self", "start", "trail", "untried", "back", "straight", "done", "step", "kind"] ["self", "start"] (defScope s_Kinds_search) := ⟨rfl, rfl, rfl, by decide +kernel, rfl, by decide +kernel, by decide +kernel⟩
theorem sc_Kinds_keep : FnScope ["self", "trail", "kind", "field"] ["self", "trail", "kind"] (defScope s_Kinds_keep) := ⟨rfl, rfl, rfl, by decide +kernel, rfl, by decide +kernel, by decide +kernel⟩
theorem sc_Kinds_candidates : FnScope ["self", "field", "file", "name", "part", "owner", "value", "simples", "simple"] ["self", "field"] (defScope s_Kinds_candidates) := ⟨rfl, rfl, rfl, by decide +kernel, rfl, by decide +kernel, by decide +kernel⟩
theorem sc_Kinds_told_by : FnScope ["self", "owner", "simple", "base", "entry"] ["self", "owner", "simple"] (defScope s_Kinds_told_by) := ⟨rfl, rfl, rfl, by decide +kernel, rfl, by decide +kernel, by decide +kernel⟩
theorem sc_Project___init__ : FnScope ["self", "files", "name", "text", "counts", "key"] ["self", "files"] (defScope s_Project___init__) := ⟨rfl, rfl, rfl, by decide +kernel, rfl, by decide +kernel, by decide +kernel⟩
theorem sc_Project___getitem__ : FnScope ["self", "at"] ["self", "at"] (defScope s_Project___getitem__) := ⟨rfl, rfl, rfl, by decide +kernel, rfl, by decide +kernel, by decide +kernel⟩
theorem sc_Project___iter__ : FnScope ["self"] ["self"] (defScope s_Project___iter__) := ⟨rfl, rfl, rfl, by decide +kernel, rfl, by decide +kernel, by decide +kernel⟩
theorem sc_Project___contains__ : FnScope ["self", "x"] ["self", "x"] (defScope s_Project___contains__) := ⟨rfl, rfl, rfl, by decide +kernel, rfl, by decide +kernel, by decide +kernel⟩
theorem sc_Project___len__ : FnScope ["self"] ["self"] (defScope s_Project___len__) := ⟨rfl, rfl, rfl, by decide +kernel, rfl, by decide +kernel, by decide +kernel⟩
theorem sc_Project___eq__ : FnScope ["self", "other"] ["self", "other"] (defScope s_Project___eq__) := ⟨rfl, rfl, rfl, by decide +kernel, rfl, by decide +kernel, by decide +kernel⟩
theorem sc_Project_lists : FnScope ["self"] ["self"] (defScope s_Project_lists) := ⟨rfl, rfl, rfl, by decide +kernel, rfl, by decide +kernel, by decide +kernel⟩
end V5

set_option maxHeartbeats 2000000
/-! More facts of the head: what isinstance and the own exceptions ask. -/
namespace V5
open PySem PySem.Spec PyProof.Rows L2

inductive Fx where
  | glob
  | ins (x : Str)
  | kit (x y : Str) (b : Bool)
  | kitT (x : Str) (T : String) (b : Bool)
  | exm (x y : Str)
  | oex (x : Str)
  | ini (x : Str)
  | ix (x : Str)
  | nof (x f : Str)
  | tup (x : Str) (vs : List He.Dv)
  | keep (x : Str)
  | kitN (T : String) (y : Str) (b : Bool)
  | al (x y : Str)

/-- the class at C is an exception's, over ValueError, with a dict -/
def oexB (K : PySem.W.Frag) (C : Addr) : Bool := match K.lookup C with
  | some ob => (match ob.cls, ob.data, ob.slots.toList with
    | .type ty, .cls cd, [_, _, _, _, some (.builtin n), _] => (match cd.mro with
      | .ref C2 :: bm => decide (ty = "type") && (decide (n = "ValueError.__new__") && (decide (C2 = C) && (cd.hasDict && (!cd.hasDel && PySem.HandSPX.refsVE bm))))
      | _ => false)
    | _, _, _ => false)
  | none => false
def Fx.ok (K : PySem.W.Frag) : Fx → Bool
  | .glob => decide (PySem.W.specialIn K (.builtin "object.__class__") "__get__" = some (some (.builtin "getset_descriptor.__get__"))) && decide (PySem.W.takesIn K (.builtin "object.__class__") = some true)
  | .ins x => decide (PySem.W.findIn K (.ref (He.ga K x)) "__class__" = some (some (.builtin "object.__class__"))) && decide (PySem.W.mroIn K (He.ga K x) (.type "object") = some true)
  | .kit x y b => decide (PySem.W.kitOne K (.ref (He.ga K x)) (.ref (He.ga K y)) = some b)
  | .kitT x T b => decide (PySem.W.kitOne K (.ref (He.ga K x)) (.type T) = some b)
  | .exm x y => decide (PySem.W.exmOne K (.ref (He.ga K x)) (.ref (He.ga K y)) = some true)
  | .oex x => oexB K (He.ga K x) && (decide (PySem.W.findIn K (.ref (He.ga K x)) "__setattr__" = some (some (.builtin "object.__setattr__"))) && (decide (PySem.W.subIn K (.ref (He.ga K x)) (.type "BaseException") = some true) &&
      (decide (PySem.W.typeIn K (.ref (He.ga K x)) = some (.type "type")) && PySem.W.keepIn K (.ref (He.ga K x)))))
  | .ini x => decide (PySem.W.findIn K (.ref (He.ga K x)) "__init__" = some (some (.ref (He.ma K (He.ga K x) "__init__")))) && decide (PySem.W.typeIn K (.ref (He.ma K (He.ga K x) "__init__")) = some (.type "function"))
  | .ix x => decide ((PySem.W.clsIn K (He.ga K x)).isSome = true) && (decide (PySem.W.findIn K (.ref (He.ga K x)) "__getattribute__" = some (some (.builtin "BaseException.__getattribute__"))) &&
      (decide (PySem.W.findIn K (.ref (He.ga K x)) "__getattr__" = some none) && (decide (PySem.W.subIn K (.ref (He.ga K x)) (.type "BaseException") = some true) && PySem.W.hasDictIn K (He.ga K x))))
  | .nof x f => decide (PySem.W.findIn K (.ref (He.ga K x)) f = some none)
  | .tup x vs => He.tupB K x vs
  | .keep x => PySem.W.keepIn K (.ref (He.ga K x))
  | .kitN T y b => decide (PySem.W.kitOne K (.type T) (.ref (He.ga K y)) = some b)
  | .al x y => decide (He.ga K x = He.ga K y)
section
variable {K : PySem.W.Frag}
theorem and2 {a b : Bool} (h : (a && b) = true) : a = true ∧ b = true := Bool.and_eq_true_iff.mp h
theorem oex_of {x : Str} (h : (Fx.oex x).ok K = true) : OexC K (He.ga K x) := by
  obtain ⟨h1, h⟩ := and2 h
  obtain ⟨h2, h⟩ := and2 h
  obtain ⟨h3, h⟩ := and2 h
  obtain ⟨h4, h5⟩ := and2 h
  refine ⟨?_, of_decide_eq_true h2, of_decide_eq_true h3, of_decide_eq_true h4, h5⟩
  unfold oexB at h1
  cases e : K.lookup (He.ga K x) with
  | none =>
    rw [e] at h1
    cases h1
  | some ob =>
    obtain ⟨oc, od, dt, sl⟩ := ob
    rw [e] at h1
    dsimp only at h1
    split at h1
    · rename_i ty cd k0 k1 k2 k3 n k5 e3
      obtain ⟨nm, bs, mro, ns, qn, hd, sn, sub, ab, col, del⟩ := cd
      dsimp only at h1
      split at h1
      · rename_i l4 C2 bm
        obtain ⟨a1, h1⟩ := and2 h1
        obtain ⟨a2, h1⟩ := and2 h1
        obtain ⟨a3, h1⟩ := and2 h1
        obtain ⟨a4, h1⟩ := and2 h1
        obtain ⟨a5, a6⟩ := and2 h1
        have z1 := of_decide_eq_true a1
        have z2 := of_decide_eq_true a2
        have z3 := of_decide_eq_true a3
        have z5 : del = false := by
          cases del with
          | false => rfl
          | true => cases a5
        have z6 : sl = #[k0, k1, k2, k3, some (.builtin n), k5] := by
          obtain ⟨l⟩ := sl
          dsimp only at e3
          rw [e3]
        subst z1 z2 z5 z6 a4
        refine ⟨nm, qn, ns, bs, bm, sn, sub, ab, col, od, k0, k1, k2, k3, k5, ?_, a6⟩
        rw [z3]
      · cases h1
    · cases h1
end
def cl6 : List Str := ["Literal", "Record", "Loop", "Body"]
def fxs : List Fx := [.glob, .ins "Owner", .ins "Stock", .ins "Literal", .ins "Record", .ins "Loop", .ins "Body", .ins "SourceError",
  .kit "Owner" "Stock" false, .kit "Stock" "Owner" false,
  .kit "Literal" "Record" false, .kit "Literal" "Loop" false, .kit "Literal" "Body" false, .kit "Literal" "Choice" false,
  .kit "Record" "Literal" false, .kit "Record" "Loop" false, .kit "Record" "Body" false, .kit "Record" "Choice" false,
  .kit "Loop" "Literal" false, .kit "Loop" "Record" false, .kit "Loop" "Body" false, .kit "Loop" "Choice" false,
  .kit "Body" "Literal" false, .kit "Body" "Record" false, .kit "Body" "Loop" false, .kit "Body" "Choice" false,
  .oex "SourceError", .ini "SourceError", .ix "SourceError", .nof "SourceError" "word", .nof "SourceError" "file", .nof "SourceError" "index",
  .exm "SourceError" "BackError", .kit "SourceError" "BadFiles" false, .kit "SourceError" "NoFile" false, .kitT "SourceError" "ValueError" true]
def words : List Str := ["\x69mport", "template", "list", "document", "let", "new", "for", "in", "where", "give", "if", "then", "else"]
def fxs2 : List Fx := [.tup "WORDS" (words.map He.Dv.str), .al "given_faults_kinds" "given_faults", .al "where_faults_kinds" "where_faults",
  .kitN "NoneType" "Body" false, .kitN "NoneType" "Owner" false, .kitN "NoneType" "Stock" false, .kitN "NoneType" "Literal" false, .kitN "NoneType" "Record" false]
def ex (K : PySem.W.Frag) : Bool := (fxs ++ fxs2).all (Fx.ok K)
theorem ex_at {K : PySem.W.Frag} (h : ex K = true) (i : Nat) {f : Fx} (e : (fxs ++ fxs2)[i]? = some f) : f.ok K = true := List.all_eq_true.mp h f (List.mem_of_getElem? e)
end V5

set_option maxHeartbeats 2000000
/-! What the head tells, by names. Written by gen_env.py. -/
namespace V5
open PySem PySem.Spec PyProof.Rows L2
def mkD (p : Str × Option Str) (x q : Str) (st : Stmt) : He.DefD := ⟨p, x, q, defArgs st, defBody st, defScope st, [], []⟩
def fn0 : List He.DefD := [mkD ("literal_kind", none) "literal_kind" "literal_kind" s_literal_kind,
  mkD ("paths_of", none) "paths_of" "paths_of" s_paths_of,
  mkD ("right_paths", none) "right_paths" "right_paths" s_right_paths,
  mkD ("known_names", none) "known_names" "known_names" s_known_names,
  mkD ("givens", none) "givens" "givens" s_givens,
  mkD ("body_within", none) "body_within" "body_within" s_body_within,
  mkD ("reads_item", none) "reads_item" "reads_item" s_reads_item,
  mkD ("item_kind", none) "item_kind" "item_kind" s_item_kind,
  mkD ("defined", none) "defined" "defined" s_defined,
  mkD ("says", none) "says" "says" s_says,
  mkD ("patterns", none) "patterns" "patterns" s_patterns,
  mkD ("levels_of", none) "levels_of" "levels_of" s_levels_of,
  mkD ("levels_from", none) "levels_from" "levels_from" s_levels_from,
  mkD ("level_at", none) "level_at" "level_at" s_level_at,
  mkD ("first_expressed", none) "first_expressed" "first_expressed" s_first_expressed,
  mkD ("is_expression", none) "is_expression" "is_expression" s_is_expression,
  mkD ("reads_at", none) "reads_at" "reads_at" s_reads_at,
  mkD ("circle_faults", none) "circle_faults" "circle_faults" s_circle_faults,
  mkD ("possible_reads", none) "possible_reads" "possible_reads" s_possible_reads,
  mkD ("can_be_told", none) "can_be_told" "can_be_told" s_can_be_told,
  mkD ("field_faults", none) "field_faults" "field_faults" s_field_faults,
  mkD ("given_faults_fields", none) "given_faults" "given_faults" s_given_faults_fields,
  mkD ("fits", none) "fits" "fits" s_fits,
  mkD ("leads", none) "leads" "leads" s_leads,
  mkD ("where_faults_fields", none) "where_faults" "where_faults" s_where_faults_fields,
  mkD ("is_name", none) "is_name" "is_name" s_is_name,
  mkD ("is_text", none) "is_text" "is_text" s_is_text,
  mkD ("is_file", none) "is_file" "is_file" s_is_file,
  mkD ("is_inner", none) "is_inner" "is_inner" s_is_inner,
  mkD ("tokens", none) "tokens" "tokens" s_tokens,
  mkD ("next_start", none) "next_start" "next_start" s_next_start,
  mkD ("line_end", none) "line_end" "line_end" s_line_end,
  mkD ("token_end", none) "token_end" "token_end" s_token_end,
  mkD ("run_end", none) "run_end" "run_end" s_run_end,
  mkD ("string_end", none) "string_end" "string_end" s_string_end,
  mkD ("number_in", none) "number_in" "number_in" s_number_in]
def fn1 : List He.DefD := [mkD ("tree_of", none) "tree_of" "tree_of" s_tree_of,
  mkD ("kind_faults", none) "kind_faults" "kind_faults" s_kind_faults,
  mkD ("item_faults", none) "item_faults" "item_faults" s_item_faults,
  mkD ("given_faults", none) "given_faults" "given_faults" s_given_faults,
  mkD ("simple_faults", none) "simple_faults" "simple_faults" s_simple_faults,
  mkD ("where_faults", none) "where_faults" "where_faults" s_where_faults,
  mkD ("import_faults", none) "import_faults" "import_faults" s_import_faults,
  mkD ("repeated", none) "repeated" "repeated" s_repeated,
  mkD ("twice_faults", none) "twice_faults" "twice_faults" s_twice_faults,
  mkD ("brought_twice", none) "brought_twice" "brought_twice" s_brought_twice,
  mkD ("bodies_in", none) "bodies_in" "bodies_in" s_bodies_in,
  mkD ("hiding_loops", none) "hiding_loops" "hiding_loops" s_hiding_loops,
  mkD ("name_faults", none) "name_faults" "name_faults" s_name_faults,
  mkD ("template_marks", none) "template_marks" "template_marks" s_template_marks,
  mkD ("ring_faults", none) "ring_faults" "ring_faults" s_ring_faults,
  mkD ("is_in_ring", none) "is_in_ring" "is_in_ring" s_is_in_ring,
  mkD ("checked", none) "checked" "checked" s_checked,
  mkD ("refuse", none) "refuse" "refuse" s_refuse,
  mkD ("all_layers", none) "all_layers" "all_layers" s_all_layers,
  mkD ("are_files", none) "are_files" "are_files" s_are_files,
  mkD ("item_counts", none) "item_counts" "item_counts" s_item_counts,
  mkD ("_law_box", none) "_law_box" "_law_box" s__law_box,
  mkD ("_law_take", none) "_law_take" "_law_take" s__law_take,
  mkD ("_law_of", none) "_law_of" "_law_of" s__law_of,
  mkD ("_law_put", none) "_law_put" "_law_put" s__law_put,
  mkD ("_law_error", none) "_law_error" "_law_error" s__law_error,
  mkD ("_law_files", none) "_law_files" "_law_files" s__law_files,
  mkD ("_law_due", none) "_law_due" "_law_due" s__law_due,
  mkD ("law", none) "law" "law" s_law,
  mkD ("Mark", some "__init__") "__init__" "Mark.__init__" s_Mark___init__,
  mkD ("FileTree", some "__init__") "__init__" "FileTree.__init__" s_FileTree___init__,
  mkD ("FileTree", some "owners") "owners" "FileTree.owners" s_FileTree_owners,
  mkD ("FileTree", some "stocks") "stocks" "FileTree.stocks" s_FileTree_stocks,
  mkD ("Owner", some "__init__") "__init__" "Owner.__init__" s_Owner___init__,
  mkD ("Stock", some "__init__") "__init__" "Stock.__init__" s_Stock___init__,
  mkD ("Stock", some "kinds") "kinds" "Stock.kinds" s_Stock_kinds]
def fn2 : List He.DefD := [mkD ("Column", some "__init__") "__init__" "Column.__init__" s_Column___init__,
  mkD ("Body", some "__init__") "__init__" "Body.__init__" s_Body___init__,
  mkD ("Entry", some "__init__") "__init__" "Entry.__init__" s_Entry___init__,
  mkD ("Literal", some "__init__") "__init__" "Literal.__init__" s_Literal___init__,
  mkD ("Path", some "__init__") "__init__" "Path.__init__" s_Path___init__,
  mkD ("Term", some "__init__") "__init__" "Term.__init__" s_Term___init__,
  mkD ("Sum", some "__init__") "__init__" "Sum.__init__" s_Sum___init__,
  mkD ("Sum", some "paths") "paths" "Sum.paths" s_Sum_paths,
  mkD ("Choice", some "__init__") "__init__" "Choice.__init__" s_Choice___init__,
  mkD ("Choice", some "paths") "paths" "Choice.paths" s_Choice_paths,
  mkD ("Record", some "__init__") "__init__" "Record.__init__" s_Record___init__,
  mkD ("Loop", some "__init__") "__init__" "Loop.__init__" s_Loop___init__,
  mkD ("Where", some "__init__") "__init__" "Where.__init__" s_Where___init__,
  mkD ("Sources", some "__init__") "__init__" "Sources.__init__" s_Sources___init__,
  mkD ("Sources", some "known_template") "known_template" "Sources.known_template" s_Sources_known_template,
  mkD ("Sources", some "known_stock") "known_stock" "Sources.known_stock" s_Sources_known_stock,
  mkD ("Sources", some "owner_at") "owner_at" "Sources.owner_at" s_Sources_owner_at,
  mkD ("Sources", some "parent_of") "parent_of" "Sources.parent_of" s_Sources_parent_of,
  mkD ("Sources", some "base_of") "base_of" "Sources.base_of" s_Sources_base_of,
  mkD ("Sources", some "used") "used" "Sources.used" s_Sources_used,
  mkD ("Sources", some "inner") "inner" "Sources.inner" s_Sources_inner,
  mkD ("Sources", some "field_at") "field_at" "Sources.field_at" s_Sources_field_at,
  mkD ("Given", some "__init__") "__init__" "Given.__init__" s_Given___init__,
  mkD ("Given", some "field") "field" "Given.field" s_Given_field,
  mkD ("Level", some "__init__") "__init__" "Level.__init__" s_Level___init__,
  mkD ("BadFiles", some "__init__") "__init__" "BadFiles.__init__" s_BadFiles___init__,
  mkD ("SourceError", some "__init__") "__init__" "SourceError.__init__" s_SourceError___init__,
  mkD ("NoFile", some "__init__") "__init__" "NoFile.__init__" s_NoFile___init__,
  mkD ("Parser", some "__init__") "__init__" "Parser.__init__" s_Parser___init__,
  mkD ("Parser", some "here") "here" "Parser.here" s_Parser_here,
  mkD ("Parser", some "token") "token" "Parser.token" s_Parser_token,
  mkD ("Parser", some "take") "take" "Parser.take" s_Parser_take,
  mkD ("Parser", some "refuse") "refuse" "Parser.refuse" s_Parser_refuse,
  mkD ("Parser", some "expect") "expect" "Parser.expect" s_Parser_expect,
  mkD ("Parser", some "accepts") "accepts" "Parser.accepts" s_Parser_accepts,
  mkD ("Parser", some "text_from") "text_from" "Parser.text_from" s_Parser_text_from]
def fn3 : List He.DefD := [mkD ("Parser", some "read_name") "read_name" "Parser.read_name" s_Parser_read_name,
  mkD ("Parser", some "read_file") "read_file" "Parser.read_file" s_Parser_read_file,
  mkD ("Parser", some "read_template") "read_template" "Parser.read_template" s_Parser_read_template,
  mkD ("Parser", some "read_stock") "read_stock" "Parser.read_stock" s_Parser_read_stock,
  mkD ("Parser", some "read_columns") "read_columns" "Parser.read_columns" s_Parser_read_columns,
  mkD ("Parser", some "read_column") "read_column" "Parser.read_column" s_Parser_read_column,
  mkD ("Parser", some "read_item") "read_item" "Parser.read_item" s_Parser_read_item,
  mkD ("Parser", some "read_body") "read_body" "Parser.read_body" s_Parser_read_body,
  mkD ("Parser", some "read_entry") "read_entry" "Parser.read_entry" s_Parser_read_entry,
  mkD ("Parser", some "read_value") "read_value" "Parser.read_value" s_Parser_read_value,
  mkD ("Parser", some "read_record") "read_record" "Parser.read_record" s_Parser_read_record,
  mkD ("Parser", some "read_loop") "read_loop" "Parser.read_loop" s_Parser_read_loop,
  mkD ("Parser", some "read_where") "read_where" "Parser.read_where" s_Parser_read_where,
  mkD ("Parser", some "read_choice") "read_choice" "Parser.read_choice" s_Parser_read_choice,
  mkD ("Parser", some "read_simple") "read_simple" "Parser.read_simple" s_Parser_read_simple,
  mkD ("Parser", some "read_term") "read_term" "Parser.read_term" s_Parser_read_term,
  mkD ("Parser", some "read_digits") "read_digits" "Parser.read_digits" s_Parser_read_digits,
  mkD ("Parser", some "read_literal") "read_literal" "Parser.read_literal" s_Parser_read_literal,
  mkD ("Parser", some "read_path") "read_path" "Parser.read_path" s_Parser_read_path,
  mkD ("Kinds", some "__init__") "__init__" "Kinds.__init__" s_Kinds___init__,
  mkD ("Kinds", some "of") "of" "Kinds.of" s_Kinds_of,
  mkD ("Kinds", some "path_kind") "path_kind" "Kinds.path_kind" s_Kinds_path_kind,
  mkD ("Kinds", some "search") "search" "Kinds.search" s_Kinds_search,
  mkD ("Kinds", some "keep") "keep" "Kinds.keep" s_Kinds_keep,
  mkD ("Kinds", some "candidates") "candidates" "Kinds.candidates" s_Kinds_candidates,
  mkD ("Kinds", some "told_by") "told_by" "Kinds.told_by" s_Kinds_told_by,
  mkD ("Project", some "__init__") "__init__" "Project.__init__" s_Project___init__,
  mkD ("Project", some "__getitem__") "__getitem__" "Project.__getitem__" s_Project___getitem__,
  mkD ("Project", some "__iter__") "__iter__" "Project.__iter__" s_Project___iter__,
  mkD ("Project", some "__contains__") "__contains__" "Project.__contains__" s_Project___contains__,
  mkD ("Project", some "__len__") "__len__" "Project.__len__" s_Project___len__,
  mkD ("Project", some "__eq__") "__eq__" "Project.__eq__" s_Project___eq__,
  mkD ("Project", some "lists") "lists" "Project.lists" s_Project_lists]
def fn : List He.DefD := fn0 ++ fn1 ++ fn2 ++ fn3
def fa0 : List He.Fa := [.glo "literal_kind",
  .glo "paths_of",
  .glo "right_paths",
  .glo "known_names",
  .glo "givens",
  .glo "body_within",
  .glo "reads_item",
  .glo "item_kind",
  .glo "defined",
  .glo "says",
  .glo "patterns",
  .glo "levels_of",
  .glo "levels_from",
  .glo "level_at",
  .glo "first_expressed",
  .glo "is_expression",
  .glo "reads_at",
  .glo "circle_faults",
  .glo "possible_reads",
  .glo "can_be_told",
  .glo "field_faults",
  .glo "given_faults_fields",
  .glo "fits",
  .glo "leads",
  .glo "where_faults_fields",
  .glo "is_name",
  .glo "is_text",
  .glo "is_file",
  .glo "is_inner",
  .glo "tokens",
  .glo "next_start",
  .glo "line_end",
  .glo "token_end",
  .glo "run_end",
  .glo "string_end",
  .glo "number_in"]
def fa1 : List He.Fa := [.glo "tree_of",
  .glo "kind_faults",
  .glo "item_faults",
  .glo "given_faults",
  .glo "simple_faults",
  .glo "where_faults",
  .glo "import_faults",
  .glo "repeated",
  .glo "twice_faults",
  .glo "brought_twice",
  .glo "bodies_in",
  .glo "hiding_loops",
  .glo "name_faults",
  .glo "template_marks",
  .glo "ring_faults",
  .glo "is_in_ring",
  .glo "checked",
  .glo "refuse",
  .glo "all_layers",
  .glo "are_files",
  .glo "item_counts",
  .glo "_law_box",
  .glo "_law_take",
  .glo "_law_of",
  .glo "_law_put",
  .glo "_law_error",
  .glo "_law_files",
  .glo "_law_due",
  .glo "law",
  .glo "Mark",
  .glo "FileTree",
  .glo "Owner",
  .glo "Stock",
  .glo "Column",
  .glo "Body",
  .glo "Entry"]
def fa2 : List He.Fa := [.glo "Literal",
  .glo "Path",
  .glo "Term",
  .glo "Sum",
  .glo "Choice",
  .glo "Record",
  .glo "Loop",
  .glo "Where",
  .glo "Sources",
  .glo "Given",
  .glo "Level",
  .glo "BackError",
  .glo "BadFiles",
  .glo "SourceError",
  .glo "NoFile",
  .glo "Parser",
  .glo "Kinds",
  .glo "Project",
  .free "TypeError",
  .free "ValueError",
  .free "abs",
  .free "all",
  .free "any",
  .free "dict",
  .free "enumerate",
  .free "int",
  .free "isinstance",
  .free "len",
  .free "list",
  .free "max",
  .free "min",
  .free "property",
  .free "range",
  .free "set",
  .free "sorted",
  .free "str"]
def fa3 : List He.Fa := [.free "tuple",
  .free "zip",
  .glo "WORDS",
  .str "LETTERS" "abcdefghijklmnopqrstuvwxyz",
  .str "DIGITS" "0123456789",
  .str "SIGNS" "{}[]():.,=+-*",
  .str "QUOTE" "\"",
  .int "LONGEST_NAME" (12),
  .int "LONGEST_STRING" (60),
  .int "AT_ONCE" (64),
  .int "UNIT" (10000000000000000000000000000000000000000000000000000000000000000),
  .int "MOST_FILES" (6),
  .cls "Mark",
  .noat "Mark" "index",
  .noat "Mark" "name",
  .mkr "Mark",
  .cls "FileTree",
  .noat "FileTree" "name",
  .noat "FileTree" "imports",
  .noat "FileTree" "declared",
  .noat "FileTree" "document",
  .mkr "FileTree",
  .meth "FileTree" "owners",
  .meth "FileTree" "stocks",
  .cls "Owner",
  .noat "Owner" "file",
  .noat "Owner" "index",
  .noat "Owner" "name",
  .noat "Owner" "parent",
  .noat "Owner" "body",
  .mkr "Owner",
  .cls "Stock",
  .noat "Stock" "file",
  .noat "Stock" "index",
  .noat "Stock" "name",
  .noat "Stock" "columns"]
def fa4 : List He.Fa := [.noat "Stock" "goods",
  .mkr "Stock",
  .meth "Stock" "kinds",
  .cls "Column",
  .noat "Column" "index",
  .noat "Column" "name",
  .noat "Column" "kind",
  .mkr "Column",
  .cls "Body",
  .noat "Body" "index",
  .noat "Body" "declaring",
  .noat "Body" "entries",
  .noat "Body" "named",
  .mkr "Body",
  .cls "Entry",
  .noat "Entry" "index",
  .noat "Entry" "name",
  .noat "Entry" "hidden",
  .noat "Entry" "value",
  .mkr "Entry",
  .cls "Literal",
  .noat "Literal" "index",
  .noat "Literal" "worth",
  .mkr "Literal",
  .cls "Path",
  .noat "Path" "index",
  .noat "Path" "parts",
  .mkr "Path",
  .cls "Term",
  .noat "Term" "factor",
  .noat "Term" "path",
  .mkr "Term",
  .cls "Sum",
  .noat "Sum" "index",
  .noat "Sum" "words",
  .noat "Sum" "terms"]
def fa5 : List He.Fa := [.noat "Sum" "alone",
  .mkr "Sum",
  .meth "Sum" "paths",
  .cls "Choice",
  .noat "Choice" "index",
  .noat "Choice" "words",
  .noat "Choice" "sides",
  .noat "Choice" "path",
  .noat "Choice" "literal",
  .mkr "Choice",
  .meth "Choice" "paths",
  .cls "Record",
  .noat "Record" "template",
  .noat "Record" "body",
  .mkr "Record",
  .cls "Loop",
  .noat "Loop" "item",
  .noat "Loop" "stock",
  .noat "Loop" "where",
  .noat "Loop" "template",
  .noat "Loop" "body",
  .mkr "Loop",
  .cls "Where",
  .noat "Where" "words",
  .noat "Where" "left",
  .noat "Where" "right",
  .mkr "Where",
  .cls "Sources",
  .noat "Sources" "trees",
  .noat "Sources" "known",
  .noat "Sources" "layers",
  .mkr "Sources",
  .meth "Sources" "known_template",
  .meth "Sources" "known_stock",
  .meth "Sources" "owner_at",
  .meth "Sources" "parent_of"]
def fa6 : List He.Fa := [.meth "Sources" "base_of",
  .meth "Sources" "used",
  .meth "Sources" "inner",
  .meth "Sources" "field_at",
  .cls "Given",
  .noat "Given" "entry",
  .noat "Given" "base",
  .noat "Given" "loop",
  .noat "Given" "declares",
  .mkr "Given",
  .meth "Given" "field",
  .cls "Level",
  .noat "Level" "spot",
  .noat "Level" "home",
  .noat "Level" "value",
  .noat "Level" "loop",
  .noat "Level" "stock",
  .mkr "Level",
  .cls "Parser",
  .noat "Parser" "file",
  .noat "Parser" "found",
  .noat "Parser" "end_word",
  .noat "Parser" "at",
  .mkr "Parser",
  .meth "Parser" "here",
  .meth "Parser" "token",
  .meth "Parser" "take",
  .meth "Parser" "refuse",
  .meth "Parser" "expect",
  .meth "Parser" "accepts",
  .meth "Parser" "text_from",
  .meth "Parser" "read_name",
  .meth "Parser" "read_file",
  .meth "Parser" "read_template",
  .meth "Parser" "read_stock",
  .meth "Parser" "read_columns"]
def fa7 : List He.Fa := [.meth "Parser" "read_column",
  .meth "Parser" "read_item",
  .meth "Parser" "read_body",
  .meth "Parser" "read_entry",
  .meth "Parser" "read_value",
  .meth "Parser" "read_record",
  .meth "Parser" "read_loop",
  .meth "Parser" "read_where",
  .meth "Parser" "read_choice",
  .meth "Parser" "read_simple",
  .meth "Parser" "read_term",
  .meth "Parser" "read_digits",
  .meth "Parser" "read_literal",
  .meth "Parser" "read_path",
  .cls "Kinds",
  .noat "Kinds" "sources",
  .noat "Kinds" "known",
  .noat "Kinds" "plain",
  .mkr "Kinds",
  .meth "Kinds" "of",
  .meth "Kinds" "path_kind",
  .meth "Kinds" "search",
  .meth "Kinds" "keep",
  .meth "Kinds" "candidates",
  .meth "Kinds" "told_by",
  .cls "Project",
  .noat "Project" "_files",
  .noat "Project" "_texts",
  .noat "Project" "sources",
  .noat "Project" "_serials",
  .noat "Project" "_nexts",
  .mkr "Project",
  .meth "Project" "__getitem__",
  .meth "Project" "__iter__",
  .meth "Project" "__contains__",
  .meth "Project" "__len__"]
def fa8 : List He.Fa := [.meth "Project" "__eq__",
  .meth "Project" "lists",
  .glo "given_faults_kinds",
  .glo "where_faults_kinds"]
def fa : List He.Fa := fa0 ++ fa1 ++ fa2 ++ fa3 ++ fa4 ++ fa5 ++ fa6 ++ fa7 ++ fa8
section
variable {K : PySem.W.Frag} {mg : Str → Option Value}
instance : Inhabited FuncData := ⟨PySem.W.fnOf "" "" { posonlyargs := [], args := [], vararg := none, kwonlyargs := [], kw_defaults := [], kwarg := none, defaults := [] } [] { kind := .function, names := [], isGenerator := false, isCoroutine := false } .none .none .none .none none .none .none⟩
def fdOf (K : PySem.W.Frag) (p : Str × Option Str) : FuncData := match K.lookup (He.fAd K p) with
  | some ⟨_, _, .func fd, _⟩ => fd
  | _ => default
theorem fun_of (c : He.SaysD fa fn K) (i : Nat) {p : Str × Option Str} {x q : Str} {st : Stmt} (h : fn[i]? = some (mkD p x q st)) : Fun K x q st (He.fAd K p) (fdOf K p) := by
  obtain ⟨fd, F⟩ := c.def_ i h
  obtain ⟨oc, od, dV, kV, doc, pm, an, cdv, ct, osl, e, lk, hcd, hD, hK⟩ := F.ex
  have e2 : fdOf K p = fd := by
    unfold fdOf
    rw [show K.lookup (He.fAd K p) = some ⟨oc, od, .func fd, osl⟩ from lk]
  have hdV : dV = .none := by
    rcases hD with ⟨_, z⟩ | ⟨z, _⟩
    · exact z
    · exact absurd rfl z
  subst hdV
  rw [e2]
  exact ⟨⟨oc, od, kV, doc, pm, an, cdv, ct, osl, e, lk, hcd⟩, F.kp⟩
/-- a def that is called by its name -/
structure DOk (K : PySem.W.Frag) (mg : Str → Option Value) (x : Str) (f : Addr) (fd : FuncData) (ps : List Str) : Prop where
  g : mg x = some (.ref f)
  k : PySem.W.keepIn K (.ref f) = true
  b : Binds K fd ps []
/-- a method -/
structure MOk (K : PySem.W.Frag) (C : Addr) (m : Str) (f : Addr) (fd : FuncData) (ps : List Str) : Prop where
  m : Meth K C m f
  b : Binds K fd ps []
/-- a class's making -/
structure COk (K : PySem.W.Frag) (mg : Str → Option Value) (x : Str) (C f : Addr) (fd : FuncData) (ps : List Str) : Prop where
  c : Cls K C
  k : Mk K C f
  g : mg x = some (.ref C)
  b : Binds K fd ps []
/-- all that the head tells -/
structure Env (K : PySem.W.Frag) (mg : Str → Option Value) : Prop where
  d : He.SaysD fa fn K
  more : ex K = true
  glo : ∀ (i : Nat) (x : Str), fa[i]? = some (.glo x) → mg x = some (.ref (He.ga K x))
  free : ∀ (i : Nat) (x : Str), fa[i]? = some (.free x) → mg x = none
  int : ∀ (i : Nat) (x : Str) (n : Int), fa[i]? = some (.int x n) → ∃ t, mg x = some (.int n t)
  str : ∀ (i : Nat) (x z : Str), fa[i]? = some (.str x z) → ∃ t, mg x = some (.str z t)
theorem env_of {h : Heap} (X : K.In h) (G : h.Ns mainGlobals mg) (c : He.SaysD fa fn K) (m : ex K = true) : Env K mg :=
  ⟨c, m, fun i x e => He.glo_ok X G (c.fact i e), fun i x e => He.free_ok X G (c.fact i e), fun i x n e => He.int_ok X G (c.fact i e), fun i x z e => He.str_ok X G (c.fact i e)⟩
abbrev f_literal_kind (K : PySem.W.Frag) : Addr := He.fAd K ("literal_kind", none)
abbrev fd_literal_kind (K : PySem.W.Frag) : FuncData := fdOf K ("literal_kind", none)
theorem Env.F_literal_kind (E : Env K mg) : Fun K "literal_kind" "literal_kind" s_literal_kind (f_literal_kind K) (fd_literal_kind K) := fun_of E.d 0 rfl
theorem Env.D_literal_kind (E : Env K mg) : DOk K mg "literal_kind" (f_literal_kind K) (fd_literal_kind K) ["literal"] := ⟨E.glo 0 _ rfl, E.F_literal_kind.kp, E.F_literal_kind.binds (fun _ _ _ _ _ _ us hl => match us, hl with | [_], _ => rfl)⟩
abbrev f_paths_of (K : PySem.W.Frag) : Addr := He.fAd K ("paths_of", none)
abbrev fd_paths_of (K : PySem.W.Frag) : FuncData := fdOf K ("paths_of", none)
theorem Env.F_paths_of (E : Env K mg) : Fun K "paths_of" "paths_of" s_paths_of (f_paths_of K) (fd_paths_of K) := fun_of E.d 1 rfl
theorem Env.D_paths_of (E : Env K mg) : DOk K mg "paths_of" (f_paths_of K) (fd_paths_of K) ["value"] := ⟨E.glo 1 _ rfl, E.F_paths_of.kp, E.F_paths_of.binds (fun _ _ _ _ _ _ us hl => match us, hl with | [_], _ => rfl)⟩
abbrev f_right_paths (K : PySem.W.Frag) : Addr := He.fAd K ("right_paths", none)
abbrev fd_right_paths (K : PySem.W.Frag) : FuncData := fdOf K ("right_paths", none)
theorem Env.F_right_paths (E : Env K mg) : Fun K "right_paths" "right_paths" s_right_paths (f_right_paths K) (fd_right_paths K) := fun_of E.d 2 rfl
theorem Env.D_right_paths (E : Env K mg) : DOk K mg "right_paths" (f_right_paths K) (fd_right_paths K) ["where"] := ⟨E.glo 2 _ rfl, E.F_right_paths.kp, E.F_right_paths.binds (fun _ _ _ _ _ _ us hl => match us, hl with | [_], _ => rfl)⟩
abbrev f_known_names (K : PySem.W.Frag) : Addr := He.fAd K ("known_names", none)
abbrev fd_known_names (K : PySem.W.Frag) : FuncData := fdOf K ("known_names", none)
theorem Env.F_known_names (E : Env K mg) : Fun K "known_names" "known_names" s_known_names (f_known_names K) (fd_known_names K) := fun_of E.d 3 rfl
theorem Env.D_known_names (E : Env K mg) : DOk K mg "known_names" (f_known_names K) (fd_known_names K) ["trees", "tree"] := ⟨E.glo 3 _ rfl, E.F_known_names.kp, E.F_known_names.binds (fun _ _ _ _ _ _ us hl => match us, hl with | [_, _], _ => rfl)⟩
abbrev f_givens (K : PySem.W.Frag) : Addr := He.fAd K ("givens", none)
abbrev fd_givens (K : PySem.W.Frag) : FuncData := fdOf K ("givens", none)
theorem Env.F_givens (E : Env K mg) : Fun K "givens" "givens" s_givens (f_givens K) (fd_givens K) := fun_of E.d 4 rfl
theorem Env.D_givens (E : Env K mg) : DOk K mg "givens" (f_givens K) (fd_givens K) ["sources", "owner"] := ⟨E.glo 4 _ rfl, E.F_givens.kp, E.F_givens.binds (fun _ _ _ _ _ _ us hl => match us, hl with | [_, _], _ => rfl)⟩
abbrev f_body_within (K : PySem.W.Frag) : Addr := He.fAd K ("body_within", none)
abbrev fd_body_within (K : PySem.W.Frag) : FuncData := fdOf K ("body_within", none)
theorem Env.F_body_within (E : Env K mg) : Fun K "body_within" "body_within" s_body_within (f_body_within K) (fd_body_within K) := fun_of E.d 5 rfl
theorem Env.D_body_within (E : Env K mg) : DOk K mg "body_within" (f_body_within K) (fd_body_within K) ["sources", "given"] := ⟨E.glo 5 _ rfl, E.F_body_within.kp, E.F_body_within.binds (fun _ _ _ _ _ _ us hl => match us, hl with | [_, _], _ => rfl)⟩
abbrev f_reads_item (K : PySem.W.Frag) : Addr := He.fAd K ("reads_item", none)
abbrev fd_reads_item (K : PySem.W.Frag) : FuncData := fdOf K ("reads_item", none)
theorem Env.F_reads_item (E : Env K mg) : Fun K "reads_item" "reads_item" s_reads_item (f_reads_item K) (fd_reads_item K) := fun_of E.d 6 rfl
theorem Env.D_reads_item (E : Env K mg) : DOk K mg "reads_item" (f_reads_item K) (fd_reads_item K) ["loop", "path"] := ⟨E.glo 6 _ rfl, E.F_reads_item.kp, E.F_reads_item.binds (fun _ _ _ _ _ _ us hl => match us, hl with | [_, _], _ => rfl)⟩
abbrev f_item_kind (K : PySem.W.Frag) : Addr := He.fAd K ("item_kind", none)
abbrev fd_item_kind (K : PySem.W.Frag) : FuncData := fdOf K ("item_kind", none)
theorem Env.F_item_kind (E : Env K mg) : Fun K "item_kind" "item_kind" s_item_kind (f_item_kind K) (fd_item_kind K) := fun_of E.d 7 rfl
theorem Env.D_item_kind (E : Env K mg) : DOk K mg "item_kind" (f_item_kind K) (fd_item_kind K) ["sources", "owner", "loop", "path"] := ⟨E.glo 7 _ rfl, E.F_item_kind.kp, E.F_item_kind.binds (fun _ _ _ _ _ _ us hl => match us, hl with | [_, _, _, _], _ => rfl)⟩
abbrev f_defined (K : PySem.W.Frag) : Addr := He.fAd K ("defined", none)
abbrev fd_defined (K : PySem.W.Frag) : FuncData := fdOf K ("defined", none)
theorem Env.F_defined (E : Env K mg) : Fun K "defined" "defined" s_defined (f_defined K) (fd_defined K) := fun_of E.d 8 rfl
theorem Env.D_defined (E : Env K mg) : DOk K mg "defined" (f_defined K) (fd_defined K) ["owner", "path"] := ⟨E.glo 8 _ rfl, E.F_defined.kp, E.F_defined.binds (fun _ _ _ _ _ _ us hl => match us, hl with | [_, _], _ => rfl)⟩
abbrev f_says (K : PySem.W.Frag) : Addr := He.fAd K ("says", none)
abbrev fd_says (K : PySem.W.Frag) : FuncData := fdOf K ("says", none)
theorem Env.F_says (E : Env K mg) : Fun K "says" "says" s_says (f_says K) (fd_says K) := fun_of E.d 9 rfl
theorem Env.D_says (E : Env K mg) : DOk K mg "says" (f_says K) (fd_says K) ["owner", "path"] := ⟨E.glo 9 _ rfl, E.F_says.kp, E.F_says.binds (fun _ _ _ _ _ _ us hl => match us, hl with | [_, _], _ => rfl)⟩
abbrev f_patterns (K : PySem.W.Frag) : Addr := He.fAd K ("patterns", none)
abbrev fd_patterns (K : PySem.W.Frag) : FuncData := fdOf K ("patterns", none)
theorem Env.F_patterns (E : Env K mg) : Fun K "patterns" "patterns" s_patterns (f_patterns K) (fd_patterns K) := fun_of E.d 10 rfl
theorem Env.D_patterns (E : Env K mg) : DOk K mg "patterns" (f_patterns K) (fd_patterns K) ["sources", "file"] := ⟨E.glo 10 _ rfl, E.F_patterns.kp, E.F_patterns.binds (fun _ _ _ _ _ _ us hl => match us, hl with | [_, _], _ => rfl)⟩
abbrev f_levels_of (K : PySem.W.Frag) : Addr := He.fAd K ("levels_of", none)
abbrev fd_levels_of (K : PySem.W.Frag) : FuncData := fdOf K ("levels_of", none)
theorem Env.F_levels_of (E : Env K mg) : Fun K "levels_of" "levels_of" s_levels_of (f_levels_of K) (fd_levels_of K) := fun_of E.d 11 rfl
theorem Env.D_levels_of (E : Env K mg) : DOk K mg "levels_of" (f_levels_of K) (fd_levels_of K) ["sources", "file", "pattern"] := ⟨E.glo 11 _ rfl, E.F_levels_of.kp, E.F_levels_of.binds (fun _ _ _ _ _ _ us hl => match us, hl with | [_, _, _], _ => rfl)⟩
abbrev f_levels_from (K : PySem.W.Frag) : Addr := He.fAd K ("levels_from", none)
abbrev fd_levels_from (K : PySem.W.Frag) : FuncData := fdOf K ("levels_from", none)
theorem Env.F_levels_from (E : Env K mg) : Fun K "levels_from" "levels_from" s_levels_from (f_levels_from K) (fd_levels_from K) := fun_of E.d 12 rfl
theorem Env.D_levels_from (E : Env K mg) : DOk K mg "levels_from" (f_levels_from K) (fd_levels_from K) ["sources", "owner", "pattern"] := ⟨E.glo 12 _ rfl, E.F_levels_from.kp, E.F_levels_from.binds (fun _ _ _ _ _ _ us hl => match us, hl with | [_, _, _], _ => rfl)⟩
abbrev f_level_at (K : PySem.W.Frag) : Addr := He.fAd K ("level_at", none)
abbrev fd_level_at (K : PySem.W.Frag) : FuncData := fdOf K ("level_at", none)
theorem Env.F_level_at (E : Env K mg) : Fun K "level_at" "level_at" s_level_at (f_level_at K) (fd_level_at K) := fun_of E.d 13 rfl
theorem Env.D_level_at (E : Env K mg) : DOk K mg "level_at" (f_level_at K) (fd_level_at K) ["sources", "owner", "path", "home"] := ⟨E.glo 13 _ rfl, E.F_level_at.kp, E.F_level_at.binds (fun _ _ _ _ _ _ us hl => match us, hl with | [_, _, _, _], _ => rfl)⟩
abbrev f_first_expressed (K : PySem.W.Frag) : Addr := He.fAd K ("first_expressed", none)
abbrev fd_first_expressed (K : PySem.W.Frag) : FuncData := fdOf K ("first_expressed", none)
theorem Env.F_first_expressed (E : Env K mg) : Fun K "first_expressed" "first_expressed" s_first_expressed (f_first_expressed K) (fd_first_expressed K) := fun_of E.d 14 rfl
theorem Env.D_first_expressed (E : Env K mg) : DOk K mg "first_expressed" (f_first_expressed K) (fd_first_expressed K) ["levels"] := ⟨E.glo 14 _ rfl, E.F_first_expressed.kp, E.F_first_expressed.binds (fun _ _ _ _ _ _ us hl => match us, hl with | [_], _ => rfl)⟩
abbrev f_is_expression (K : PySem.W.Frag) : Addr := He.fAd K ("is_expression", none)
abbrev fd_is_expression (K : PySem.W.Frag) : FuncData := fdOf K ("is_expression", none)
theorem Env.F_is_expression (E : Env K mg) : Fun K "is_expression" "is_expression" s_is_expression (f_is_expression K) (fd_is_expression K) := fun_of E.d 15 rfl
theorem Env.D_is_expression (E : Env K mg) : DOk K mg "is_expression" (f_is_expression K) (fd_is_expression K) ["value"] := ⟨E.glo 15 _ rfl, E.F_is_expression.kp, E.F_is_expression.binds (fun _ _ _ _ _ _ us hl => match us, hl with | [_], _ => rfl)⟩
abbrev f_reads_at (K : PySem.W.Frag) : Addr := He.fAd K ("reads_at", none)
abbrev fd_reads_at (K : PySem.W.Frag) : FuncData := fdOf K ("reads_at", none)
theorem Env.F_reads_at (E : Env K mg) : Fun K "reads_at" "reads_at" s_reads_at (f_reads_at K) (fd_reads_at K) := fun_of E.d 16 rfl
theorem Env.D_reads_at (E : Env K mg) : DOk K mg "reads_at" (f_reads_at K) (fd_reads_at K) ["level", "path", "paths"] := ⟨E.glo 16 _ rfl, E.F_reads_at.kp, E.F_reads_at.binds (fun _ _ _ _ _ _ us hl => match us, hl with | [_, _, _], _ => rfl)⟩
abbrev f_circle_faults (K : PySem.W.Frag) : Addr := He.fAd K ("circle_faults", none)
abbrev fd_circle_faults (K : PySem.W.Frag) : FuncData := fdOf K ("circle_faults", none)
theorem Env.F_circle_faults (E : Env K mg) : Fun K "circle_faults" "circle_faults" s_circle_faults (f_circle_faults K) (fd_circle_faults K) := fun_of E.d 17 rfl
theorem Env.D_circle_faults (E : Env K mg) : DOk K mg "circle_faults" (f_circle_faults K) (fd_circle_faults K) ["layers", "tree"] := ⟨E.glo 17 _ rfl, E.F_circle_faults.kp, E.F_circle_faults.binds (fun _ _ _ _ _ _ us hl => match us, hl with | [_, _], _ => rfl)⟩
abbrev f_possible_reads (K : PySem.W.Frag) : Addr := He.fAd K ("possible_reads", none)
abbrev fd_possible_reads (K : PySem.W.Frag) : FuncData := fdOf K ("possible_reads", none)
theorem Env.F_possible_reads (E : Env K mg) : Fun K "possible_reads" "possible_reads" s_possible_reads (f_possible_reads K) (fd_possible_reads K) := fun_of E.d 18 rfl
theorem Env.D_possible_reads (E : Env K mg) : DOk K mg "possible_reads" (f_possible_reads K) (fd_possible_reads K) ["levels", "pattern"] := ⟨E.glo 18 _ rfl, E.F_possible_reads.kp, E.F_possible_reads.binds (fun _ _ _ _ _ _ us hl => match us, hl with | [_, _], _ => rfl)⟩
abbrev f_can_be_told (K : PySem.W.Frag) : Addr := He.fAd K ("can_be_told", none)
abbrev fd_can_be_told (K : PySem.W.Frag) : FuncData := fdOf K ("can_be_told", none)
theorem Env.F_can_be_told (E : Env K mg) : Fun K "can_be_told" "can_be_told" s_can_be_told (f_can_be_told K) (fd_can_be_told K) := fun_of E.d 19 rfl
theorem Env.D_can_be_told (E : Env K mg) : DOk K mg "can_be_told" (f_can_be_told K) (fd_can_be_told K) ["unread", "read_by"] := ⟨E.glo 19 _ rfl, E.F_can_be_told.kp, E.F_can_be_told.binds (fun _ _ _ _ _ _ us hl => match us, hl with | [_, _], _ => rfl)⟩
abbrev f_field_faults (K : PySem.W.Frag) : Addr := He.fAd K ("field_faults", none)
abbrev fd_field_faults (K : PySem.W.Frag) : FuncData := fdOf K ("field_faults", none)
theorem Env.F_field_faults (E : Env K mg) : Fun K "field_faults" "field_faults" s_field_faults (f_field_faults K) (fd_field_faults K) := fun_of E.d 20 rfl
theorem Env.D_field_faults (E : Env K mg) : DOk K mg "field_faults" (f_field_faults K) (fd_field_faults K) ["sources", "tree"] := ⟨E.glo 20 _ rfl, E.F_field_faults.kp, E.F_field_faults.binds (fun _ _ _ _ _ _ us hl => match us, hl with | [_, _], _ => rfl)⟩
abbrev f_given_faults_fields (K : PySem.W.Frag) : Addr := He.fAd K ("given_faults_fields", none)
abbrev fd_given_faults_fields (K : PySem.W.Frag) : FuncData := fdOf K ("given_faults_fields", none)
theorem Env.F_given_faults_fields (E : Env K mg) : Fun K "given_faults" "given_faults" s_given_faults_fields (f_given_faults_fields K) (fd_given_faults_fields K) := fun_of E.d 21 rfl
theorem Env.D_given_faults_fields (E : Env K mg) : DOk K mg "given_faults_fields" (f_given_faults_fields K) (fd_given_faults_fields K) ["sources", "owner", "given"] := ⟨E.glo 21 _ rfl, E.F_given_faults_fields.kp, E.F_given_faults_fields.binds (fun _ _ _ _ _ _ us hl => match us, hl with | [_, _, _], _ => rfl)⟩
abbrev f_fits (K : PySem.W.Frag) : Addr := He.fAd K ("fits", none)
abbrev fd_fits (K : PySem.W.Frag) : FuncData := fdOf K ("fits", none)
theorem Env.F_fits (E : Env K mg) : Fun K "fits" "fits" s_fits (f_fits K) (fd_fits K) := fun_of E.d 22 rfl
theorem Env.D_fits (E : Env K mg) : DOk K mg "fits" (f_fits K) (fd_fits K) ["field", "value"] := ⟨E.glo 22 _ rfl, E.F_fits.kp, E.F_fits.binds (fun _ _ _ _ _ _ us hl => match us, hl with | [_, _], _ => rfl)⟩
abbrev f_leads (K : PySem.W.Frag) : Addr := He.fAd K ("leads", none)
abbrev fd_leads (K : PySem.W.Frag) : FuncData := fdOf K ("leads", none)
theorem Env.F_leads (E : Env K mg) : Fun K "leads" "leads" s_leads (f_leads K) (fd_leads K) := fun_of E.d 23 rfl
theorem Env.D_leads (E : Env K mg) : DOk K mg "leads" (f_leads K) (fd_leads K) ["sources", "owner", "loop", "path"] := ⟨E.glo 23 _ rfl, E.F_leads.kp, E.F_leads.binds (fun _ _ _ _ _ _ us hl => match us, hl with | [_, _, _, _], _ => rfl)⟩
abbrev f_where_faults_fields (K : PySem.W.Frag) : Addr := He.fAd K ("where_faults_fields", none)
abbrev fd_where_faults_fields (K : PySem.W.Frag) : FuncData := fdOf K ("where_faults_fields", none)
theorem Env.F_where_faults_fields (E : Env K mg) : Fun K "where_faults" "where_faults" s_where_faults_fields (f_where_faults_fields K) (fd_where_faults_fields K) := fun_of E.d 24 rfl
theorem Env.D_where_faults_fields (E : Env K mg) : DOk K mg "where_faults_fields" (f_where_faults_fields K) (fd_where_faults_fields K) ["sources", "owner", "loop"] := ⟨E.glo 24 _ rfl, E.F_where_faults_fields.kp, E.F_where_faults_fields.binds (fun _ _ _ _ _ _ us hl => match us, hl with | [_, _, _], _ => rfl)⟩
abbrev f_is_name (K : PySem.W.Frag) : Addr := He.fAd K ("is_name", none)
abbrev fd_is_name (K : PySem.W.Frag) : FuncData := fdOf K ("is_name", none)
theorem Env.F_is_name (E : Env K mg) : Fun K "is_name" "is_name" s_is_name (f_is_name K) (fd_is_name K) := fun_of E.d 25 rfl
theorem Env.D_is_name (E : Env K mg) : DOk K mg "is_name" (f_is_name K) (fd_is_name K) ["value"] := ⟨E.glo 25 _ rfl, E.F_is_name.kp, E.F_is_name.binds (fun _ _ _ _ _ _ us hl => match us, hl with | [_], _ => rfl)⟩
abbrev f_is_text (K : PySem.W.Frag) : Addr := He.fAd K ("is_text", none)
abbrev fd_is_text (K : PySem.W.Frag) : FuncData := fdOf K ("is_text", none)
theorem Env.F_is_text (E : Env K mg) : Fun K "is_text" "is_text" s_is_text (f_is_text K) (fd_is_text K) := fun_of E.d 26 rfl
theorem Env.D_is_text (E : Env K mg) : DOk K mg "is_text" (f_is_text K) (fd_is_text K) ["value"] := ⟨E.glo 26 _ rfl, E.F_is_text.kp, E.F_is_text.binds (fun _ _ _ _ _ _ us hl => match us, hl with | [_], _ => rfl)⟩
abbrev f_is_file (K : PySem.W.Frag) : Addr := He.fAd K ("is_file", none)
abbrev fd_is_file (K : PySem.W.Frag) : FuncData := fdOf K ("is_file", none)
theorem Env.F_is_file (E : Env K mg) : Fun K "is_file" "is_file" s_is_file (f_is_file K) (fd_is_file K) := fun_of E.d 27 rfl
theorem Env.D_is_file (E : Env K mg) : DOk K mg "is_file" (f_is_file K) (fd_is_file K) ["value"] := ⟨E.glo 27 _ rfl, E.F_is_file.kp, E.F_is_file.binds (fun _ _ _ _ _ _ us hl => match us, hl with | [_], _ => rfl)⟩
abbrev f_is_inner (K : PySem.W.Frag) : Addr := He.fAd K ("is_inner", none)
abbrev fd_is_inner (K : PySem.W.Frag) : FuncData := fdOf K ("is_inner", none)
theorem Env.F_is_inner (E : Env K mg) : Fun K "is_inner" "is_inner" s_is_inner (f_is_inner K) (fd_is_inner K) := fun_of E.d 28 rfl
theorem Env.D_is_inner (E : Env K mg) : DOk K mg "is_inner" (f_is_inner K) (fd_is_inner K) ["sign"] := ⟨E.glo 28 _ rfl, E.F_is_inner.kp, E.F_is_inner.binds (fun _ _ _ _ _ _ us hl => match us, hl with | [_], _ => rfl)⟩
abbrev f_tokens (K : PySem.W.Frag) : Addr := He.fAd K ("tokens", none)
abbrev fd_tokens (K : PySem.W.Frag) : FuncData := fdOf K ("tokens", none)
theorem Env.F_tokens (E : Env K mg) : Fun K "tokens" "tokens" s_tokens (f_tokens K) (fd_tokens K) := fun_of E.d 29 rfl
theorem Env.D_tokens (E : Env K mg) : DOk K mg "tokens" (f_tokens K) (fd_tokens K) ["text"] := ⟨E.glo 29 _ rfl, E.F_tokens.kp, E.F_tokens.binds (fun _ _ _ _ _ _ us hl => match us, hl with | [_], _ => rfl)⟩
abbrev f_next_start (K : PySem.W.Frag) : Addr := He.fAd K ("next_start", none)
abbrev fd_next_start (K : PySem.W.Frag) : FuncData := fdOf K ("next_start", none)
theorem Env.F_next_start (E : Env K mg) : Fun K "next_start" "next_start" s_next_start (f_next_start K) (fd_next_start K) := fun_of E.d 30 rfl
theorem Env.D_next_start (E : Env K mg) : DOk K mg "next_start" (f_next_start K) (fd_next_start K) ["text", "at"] := ⟨E.glo 30 _ rfl, E.F_next_start.kp, E.F_next_start.binds (fun _ _ _ _ _ _ us hl => match us, hl with | [_, _], _ => rfl)⟩
abbrev f_line_end (K : PySem.W.Frag) : Addr := He.fAd K ("line_end", none)
abbrev fd_line_end (K : PySem.W.Frag) : FuncData := fdOf K ("line_end", none)
theorem Env.F_line_end (E : Env K mg) : Fun K "line_end" "line_end" s_line_end (f_line_end K) (fd_line_end K) := fun_of E.d 31 rfl
theorem Env.D_line_end (E : Env K mg) : DOk K mg "line_end" (f_line_end K) (fd_line_end K) ["text", "at"] := ⟨E.glo 31 _ rfl, E.F_line_end.kp, E.F_line_end.binds (fun _ _ _ _ _ _ us hl => match us, hl with | [_, _], _ => rfl)⟩
abbrev f_token_end (K : PySem.W.Frag) : Addr := He.fAd K ("token_end", none)
abbrev fd_token_end (K : PySem.W.Frag) : FuncData := fdOf K ("token_end", none)
theorem Env.F_token_end (E : Env K mg) : Fun K "token_end" "token_end" s_token_end (f_token_end K) (fd_token_end K) := fun_of E.d 32 rfl
theorem Env.D_token_end (E : Env K mg) : DOk K mg "token_end" (f_token_end K) (fd_token_end K) ["text", "start"] := ⟨E.glo 32 _ rfl, E.F_token_end.kp, E.F_token_end.binds (fun _ _ _ _ _ _ us hl => match us, hl with | [_, _], _ => rfl)⟩
abbrev f_run_end (K : PySem.W.Frag) : Addr := He.fAd K ("run_end", none)
abbrev fd_run_end (K : PySem.W.Frag) : FuncData := fdOf K ("run_end", none)
theorem Env.F_run_end (E : Env K mg) : Fun K "run_end" "run_end" s_run_end (f_run_end K) (fd_run_end K) := fun_of E.d 33 rfl
theorem Env.D_run_end (E : Env K mg) : DOk K mg "run_end" (f_run_end K) (fd_run_end K) ["text", "at", "letters"] := ⟨E.glo 33 _ rfl, E.F_run_end.kp, E.F_run_end.binds (fun _ _ _ _ _ _ us hl => match us, hl with | [_, _, _], _ => rfl)⟩
abbrev f_string_end (K : PySem.W.Frag) : Addr := He.fAd K ("string_end", none)
abbrev fd_string_end (K : PySem.W.Frag) : FuncData := fdOf K ("string_end", none)
theorem Env.F_string_end (E : Env K mg) : Fun K "string_end" "string_end" s_string_end (f_string_end K) (fd_string_end K) := fun_of E.d 34 rfl
theorem Env.D_string_end (E : Env K mg) : DOk K mg "string_end" (f_string_end K) (fd_string_end K) ["text", "start"] := ⟨E.glo 34 _ rfl, E.F_string_end.kp, E.F_string_end.binds (fun _ _ _ _ _ _ us hl => match us, hl with | [_, _], _ => rfl)⟩
abbrev f_number_in (K : PySem.W.Frag) : Addr := He.fAd K ("number_in", none)
abbrev fd_number_in (K : PySem.W.Frag) : FuncData := fdOf K ("number_in", none)
theorem Env.F_number_in (E : Env K mg) : Fun K "number_in" "number_in" s_number_in (f_number_in K) (fd_number_in K) := fun_of E.d 35 rfl
theorem Env.D_number_in (E : Env K mg) : DOk K mg "number_in" (f_number_in K) (fd_number_in K) ["digits"] := ⟨E.glo 35 _ rfl, E.F_number_in.kp, E.F_number_in.binds (fun _ _ _ _ _ _ us hl => match us, hl with | [_], _ => rfl)⟩
abbrev f_tree_of (K : PySem.W.Frag) : Addr := He.fAd K ("tree_of", none)
abbrev fd_tree_of (K : PySem.W.Frag) : FuncData := fdOf K ("tree_of", none)
theorem Env.F_tree_of (E : Env K mg) : Fun K "tree_of" "tree_of" s_tree_of (f_tree_of K) (fd_tree_of K) := fun_of E.d 36 rfl
theorem Env.D_tree_of (E : Env K mg) : DOk K mg "tree_of" (f_tree_of K) (fd_tree_of K) ["file", "text"] := ⟨E.glo 36 _ rfl, E.F_tree_of.kp, E.F_tree_of.binds (fun _ _ _ _ _ _ us hl => match us, hl with | [_, _], _ => rfl)⟩
abbrev f_kind_faults (K : PySem.W.Frag) : Addr := He.fAd K ("kind_faults", none)
abbrev fd_kind_faults (K : PySem.W.Frag) : FuncData := fdOf K ("kind_faults", none)
theorem Env.F_kind_faults (E : Env K mg) : Fun K "kind_faults" "kind_faults" s_kind_faults (f_kind_faults K) (fd_kind_faults K) := fun_of E.d 37 rfl
theorem Env.D_kind_faults (E : Env K mg) : DOk K mg "kind_faults" (f_kind_faults K) (fd_kind_faults K) ["sources", "kinds", "tree"] := ⟨E.glo 37 _ rfl, E.F_kind_faults.kp, E.F_kind_faults.binds (fun _ _ _ _ _ _ us hl => match us, hl with | [_, _, _], _ => rfl)⟩
abbrev f_item_faults (K : PySem.W.Frag) : Addr := He.fAd K ("item_faults", none)
abbrev fd_item_faults (K : PySem.W.Frag) : FuncData := fdOf K ("item_faults", none)
theorem Env.F_item_faults (E : Env K mg) : Fun K "item_faults" "item_faults" s_item_faults (f_item_faults K) (fd_item_faults K) := fun_of E.d 38 rfl
theorem Env.D_item_faults (E : Env K mg) : DOk K mg "item_faults" (f_item_faults K) (fd_item_faults K) ["needed", "item"] := ⟨E.glo 38 _ rfl, E.F_item_faults.kp, E.F_item_faults.binds (fun _ _ _ _ _ _ us hl => match us, hl with | [_, _], _ => rfl)⟩
abbrev f_given_faults (K : PySem.W.Frag) : Addr := He.fAd K ("given_faults", none)
abbrev fd_given_faults (K : PySem.W.Frag) : FuncData := fdOf K ("given_faults", none)
theorem Env.F_given_faults (E : Env K mg) : Fun K "given_faults" "given_faults" s_given_faults (f_given_faults K) (fd_given_faults K) := fun_of E.d 39 rfl
theorem Env.D_given_faults (E : Env K mg) : DOk K mg "given_faults" (f_given_faults K) (fd_given_faults K) ["kinds", "owner", "given"] := ⟨E.glo 39 _ rfl, E.F_given_faults.kp, E.F_given_faults.binds (fun _ _ _ _ _ _ us hl => match us, hl with | [_, _, _], _ => rfl)⟩
abbrev f_simple_faults (K : PySem.W.Frag) : Addr := He.fAd K ("simple_faults", none)
abbrev fd_simple_faults (K : PySem.W.Frag) : FuncData := fdOf K ("simple_faults", none)
theorem Env.F_simple_faults (E : Env K mg) : Fun K "simple_faults" "simple_faults" s_simple_faults (f_simple_faults K) (fd_simple_faults K) := fun_of E.d 40 rfl
theorem Env.D_simple_faults (E : Env K mg) : DOk K mg "simple_faults" (f_simple_faults K) (fd_simple_faults K) ["kinds", "owner", "loop", "value", "needed"] := ⟨E.glo 40 _ rfl, E.F_simple_faults.kp, E.F_simple_faults.binds (fun _ _ _ _ _ _ us hl => match us, hl with | [_, _, _, _, _], _ => rfl)⟩
abbrev f_where_faults (K : PySem.W.Frag) : Addr := He.fAd K ("where_faults", none)
abbrev fd_where_faults (K : PySem.W.Frag) : FuncData := fdOf K ("where_faults", none)
theorem Env.F_where_faults (E : Env K mg) : Fun K "where_faults" "where_faults" s_where_faults (f_where_faults K) (fd_where_faults K) := fun_of E.d 41 rfl
theorem Env.D_where_faults (E : Env K mg) : DOk K mg "where_faults" (f_where_faults K) (fd_where_faults K) ["kinds", "owner", "loop"] := ⟨E.glo 41 _ rfl, E.F_where_faults.kp, E.F_where_faults.binds (fun _ _ _ _ _ _ us hl => match us, hl with | [_, _, _], _ => rfl)⟩
abbrev f_import_faults (K : PySem.W.Frag) : Addr := He.fAd K ("import_faults", none)
abbrev fd_import_faults (K : PySem.W.Frag) : FuncData := fdOf K ("import_faults", none)
theorem Env.F_import_faults (E : Env K mg) : Fun K "import_faults" "import_faults" s_import_faults (f_import_faults K) (fd_import_faults K) := fun_of E.d 42 rfl
theorem Env.D_import_faults (E : Env K mg) : DOk K mg "import_faults" (f_import_faults K) (fd_import_faults K) ["trees", "tree"] := ⟨E.glo 42 _ rfl, E.F_import_faults.kp, E.F_import_faults.binds (fun _ _ _ _ _ _ us hl => match us, hl with | [_, _], _ => rfl)⟩
abbrev f_repeated (K : PySem.W.Frag) : Addr := He.fAd K ("repeated", none)
abbrev fd_repeated (K : PySem.W.Frag) : FuncData := fdOf K ("repeated", none)
theorem Env.F_repeated (E : Env K mg) : Fun K "repeated" "repeated" s_repeated (f_repeated K) (fd_repeated K) := fun_of E.d 43 rfl
theorem Env.D_repeated (E : Env K mg) : DOk K mg "repeated" (f_repeated K) (fd_repeated K) ["marks"] := ⟨E.glo 43 _ rfl, E.F_repeated.kp, E.F_repeated.binds (fun _ _ _ _ _ _ us hl => match us, hl with | [_], _ => rfl)⟩
abbrev f_twice_faults (K : PySem.W.Frag) : Addr := He.fAd K ("twice_faults", none)
abbrev fd_twice_faults (K : PySem.W.Frag) : FuncData := fdOf K ("twice_faults", none)
theorem Env.F_twice_faults (E : Env K mg) : Fun K "twice_faults" "twice_faults" s_twice_faults (f_twice_faults K) (fd_twice_faults K) := fun_of E.d 44 rfl
theorem Env.D_twice_faults (E : Env K mg) : DOk K mg "twice_faults" (f_twice_faults K) (fd_twice_faults K) ["trees", "tree"] := ⟨E.glo 44 _ rfl, E.F_twice_faults.kp, E.F_twice_faults.binds (fun _ _ _ _ _ _ us hl => match us, hl with | [_, _], _ => rfl)⟩
abbrev f_brought_twice (K : PySem.W.Frag) : Addr := He.fAd K ("brought_twice", none)
abbrev fd_brought_twice (K : PySem.W.Frag) : FuncData := fdOf K ("brought_twice", none)
theorem Env.F_brought_twice (E : Env K mg) : Fun K "brought_twice" "brought_twice" s_brought_twice (f_brought_twice K) (fd_brought_twice K) := fun_of E.d 45 rfl
theorem Env.D_brought_twice (E : Env K mg) : DOk K mg "brought_twice" (f_brought_twice K) (fd_brought_twice K) ["trees", "tree"] := ⟨E.glo 45 _ rfl, E.F_brought_twice.kp, E.F_brought_twice.binds (fun _ _ _ _ _ _ us hl => match us, hl with | [_, _], _ => rfl)⟩
abbrev f_bodies_in (K : PySem.W.Frag) : Addr := He.fAd K ("bodies_in", none)
abbrev fd_bodies_in (K : PySem.W.Frag) : FuncData := fdOf K ("bodies_in", none)
theorem Env.F_bodies_in (E : Env K mg) : Fun K "bodies_in" "bodies_in" s_bodies_in (f_bodies_in K) (fd_bodies_in K) := fun_of E.d 46 rfl
theorem Env.D_bodies_in (E : Env K mg) : DOk K mg "bodies_in" (f_bodies_in K) (fd_bodies_in K) ["body"] := ⟨E.glo 46 _ rfl, E.F_bodies_in.kp, E.F_bodies_in.binds (fun _ _ _ _ _ _ us hl => match us, hl with | [_], _ => rfl)⟩
abbrev f_hiding_loops (K : PySem.W.Frag) : Addr := He.fAd K ("hiding_loops", none)
abbrev fd_hiding_loops (K : PySem.W.Frag) : FuncData := fdOf K ("hiding_loops", none)
theorem Env.F_hiding_loops (E : Env K mg) : Fun K "hiding_loops" "hiding_loops" s_hiding_loops (f_hiding_loops K) (fd_hiding_loops K) := fun_of E.d 47 rfl
theorem Env.D_hiding_loops (E : Env K mg) : DOk K mg "hiding_loops" (f_hiding_loops K) (fd_hiding_loops K) ["body"] := ⟨E.glo 47 _ rfl, E.F_hiding_loops.kp, E.F_hiding_loops.binds (fun _ _ _ _ _ _ us hl => match us, hl with | [_], _ => rfl)⟩
abbrev f_name_faults (K : PySem.W.Frag) : Addr := He.fAd K ("name_faults", none)
abbrev fd_name_faults (K : PySem.W.Frag) : FuncData := fdOf K ("name_faults", none)
theorem Env.F_name_faults (E : Env K mg) : Fun K "name_faults" "name_faults" s_name_faults (f_name_faults K) (fd_name_faults K) := fun_of E.d 48 rfl
theorem Env.D_name_faults (E : Env K mg) : DOk K mg "name_faults" (f_name_faults K) (fd_name_faults K) ["sources", "tree"] := ⟨E.glo 48 _ rfl, E.F_name_faults.kp, E.F_name_faults.binds (fun _ _ _ _ _ _ us hl => match us, hl with | [_, _], _ => rfl)⟩
abbrev f_template_marks (K : PySem.W.Frag) : Addr := He.fAd K ("template_marks", none)
abbrev fd_template_marks (K : PySem.W.Frag) : FuncData := fdOf K ("template_marks", none)
theorem Env.F_template_marks (E : Env K mg) : Fun K "template_marks" "template_marks" s_template_marks (f_template_marks K) (fd_template_marks K) := fun_of E.d 49 rfl
theorem Env.D_template_marks (E : Env K mg) : DOk K mg "template_marks" (f_template_marks K) (fd_template_marks K) ["owner"] := ⟨E.glo 49 _ rfl, E.F_template_marks.kp, E.F_template_marks.binds (fun _ _ _ _ _ _ us hl => match us, hl with | [_], _ => rfl)⟩
abbrev f_ring_faults (K : PySem.W.Frag) : Addr := He.fAd K ("ring_faults", none)
abbrev fd_ring_faults (K : PySem.W.Frag) : FuncData := fdOf K ("ring_faults", none)
theorem Env.F_ring_faults (E : Env K mg) : Fun K "ring_faults" "ring_faults" s_ring_faults (f_ring_faults K) (fd_ring_faults K) := fun_of E.d 50 rfl
theorem Env.D_ring_faults (E : Env K mg) : DOk K mg "ring_faults" (f_ring_faults K) (fd_ring_faults K) ["sources", "tree"] := ⟨E.glo 50 _ rfl, E.F_ring_faults.kp, E.F_ring_faults.binds (fun _ _ _ _ _ _ us hl => match us, hl with | [_, _], _ => rfl)⟩
abbrev f_is_in_ring (K : PySem.W.Frag) : Addr := He.fAd K ("is_in_ring", none)
abbrev fd_is_in_ring (K : PySem.W.Frag) : FuncData := fdOf K ("is_in_ring", none)
theorem Env.F_is_in_ring (E : Env K mg) : Fun K "is_in_ring" "is_in_ring" s_is_in_ring (f_is_in_ring K) (fd_is_in_ring K) := fun_of E.d 51 rfl
theorem Env.D_is_in_ring (E : Env K mg) : DOk K mg "is_in_ring" (f_is_in_ring K) (fd_is_in_ring K) ["sources", "start"] := ⟨E.glo 51 _ rfl, E.F_is_in_ring.kp, E.F_is_in_ring.binds (fun _ _ _ _ _ _ us hl => match us, hl with | [_, _], _ => rfl)⟩
abbrev f_checked (K : PySem.W.Frag) : Addr := He.fAd K ("checked", none)
abbrev fd_checked (K : PySem.W.Frag) : FuncData := fdOf K ("checked", none)
theorem Env.F_checked (E : Env K mg) : Fun K "checked" "checked" s_checked (f_checked K) (fd_checked K) := fun_of E.d 52 rfl
theorem Env.D_checked (E : Env K mg) : DOk K mg "checked" (f_checked K) (fd_checked K) ["files"] := ⟨E.glo 52 _ rfl, E.F_checked.kp, E.F_checked.binds (fun _ _ _ _ _ _ us hl => match us, hl with | [_], _ => rfl)⟩
abbrev f_refuse (K : PySem.W.Frag) : Addr := He.fAd K ("refuse", none)
abbrev fd_refuse (K : PySem.W.Frag) : FuncData := fdOf K ("refuse", none)
theorem Env.F_refuse (E : Env K mg) : Fun K "refuse" "refuse" s_refuse (f_refuse K) (fd_refuse K) := fun_of E.d 53 rfl
theorem Env.D_refuse (E : Env K mg) : DOk K mg "refuse" (f_refuse K) (fd_refuse K) ["word", "trees", "faults"] := ⟨E.glo 53 _ rfl, E.F_refuse.kp, E.F_refuse.binds (fun _ _ _ _ _ _ us hl => match us, hl with | [_, _, _], _ => rfl)⟩
abbrev f_all_layers (K : PySem.W.Frag) : Addr := He.fAd K ("all_layers", none)
abbrev fd_all_layers (K : PySem.W.Frag) : FuncData := fdOf K ("all_layers", none)
theorem Env.F_all_layers (E : Env K mg) : Fun K "all_layers" "all_layers" s_all_layers (f_all_layers K) (fd_all_layers K) := fun_of E.d 54 rfl
theorem Env.D_all_layers (E : Env K mg) : DOk K mg "all_layers" (f_all_layers K) (fd_all_layers K) ["sources"] := ⟨E.glo 54 _ rfl, E.F_all_layers.kp, E.F_all_layers.binds (fun _ _ _ _ _ _ us hl => match us, hl with | [_], _ => rfl)⟩
abbrev f_are_files (K : PySem.W.Frag) : Addr := He.fAd K ("are_files", none)
abbrev fd_are_files (K : PySem.W.Frag) : FuncData := fdOf K ("are_files", none)
theorem Env.F_are_files (E : Env K mg) : Fun K "are_files" "are_files" s_are_files (f_are_files K) (fd_are_files K) := fun_of E.d 55 rfl
theorem Env.D_are_files (E : Env K mg) : DOk K mg "are_files" (f_are_files K) (fd_are_files K) ["value"] := ⟨E.glo 55 _ rfl, E.F_are_files.kp, E.F_are_files.binds (fun _ _ _ _ _ _ us hl => match us, hl with | [_], _ => rfl)⟩
abbrev f_item_counts (K : PySem.W.Frag) : Addr := He.fAd K ("item_counts", none)
abbrev fd_item_counts (K : PySem.W.Frag) : FuncData := fdOf K ("item_counts", none)
theorem Env.F_item_counts (E : Env K mg) : Fun K "item_counts" "item_counts" s_item_counts (f_item_counts K) (fd_item_counts K) := fun_of E.d 56 rfl
theorem Env.D_item_counts (E : Env K mg) : DOk K mg "item_counts" (f_item_counts K) (fd_item_counts K) ["sources"] := ⟨E.glo 56 _ rfl, E.F_item_counts.kp, E.F_item_counts.binds (fun _ _ _ _ _ _ us hl => match us, hl with | [_], _ => rfl)⟩
abbrev f__law_box (K : PySem.W.Frag) : Addr := He.fAd K ("_law_box", none)
abbrev fd__law_box (K : PySem.W.Frag) : FuncData := fdOf K ("_law_box", none)
theorem Env.F__law_box (E : Env K mg) : Fun K "_law_box" "_law_box" s__law_box (f__law_box K) (fd__law_box K) := fun_of E.d 57 rfl
theorem Env.D__law_box (E : Env K mg) : DOk K mg "_law_box" (f__law_box K) (fd__law_box K) ["_law_script", "_law_k"] := ⟨E.glo 57 _ rfl, E.F__law_box.kp, E.F__law_box.binds (fun _ _ _ _ _ _ us hl => match us, hl with | [_, _], _ => rfl)⟩
abbrev f__law_take (K : PySem.W.Frag) : Addr := He.fAd K ("_law_take", none)
abbrev fd__law_take (K : PySem.W.Frag) : FuncData := fdOf K ("_law_take", none)
theorem Env.F__law_take (E : Env K mg) : Fun K "_law_take" "_law_take" s__law_take (f__law_take K) (fd__law_take K) := fun_of E.d 58 rfl
theorem Env.D__law_take (E : Env K mg) : DOk K mg "_law_take" (f__law_take K) (fd__law_take K) ["_law_box_here", "_law_many"] := ⟨E.glo 58 _ rfl, E.F__law_take.kp, E.F__law_take.binds (fun _ _ _ _ _ _ us hl => match us, hl with | [_, _], _ => rfl)⟩
abbrev f__law_of (K : PySem.W.Frag) : Addr := He.fAd K ("_law_of", none)
abbrev fd__law_of (K : PySem.W.Frag) : FuncData := fdOf K ("_law_of", none)
theorem Env.F__law_of (E : Env K mg) : Fun K "_law_of" "_law_of" s__law_of (f__law_of K) (fd__law_of K) := fun_of E.d 59 rfl
theorem Env.D__law_of (E : Env K mg) : DOk K mg "_law_of" (f__law_of K) (fd__law_of K) ["_law_box_here", "_law_some"] := ⟨E.glo 59 _ rfl, E.F__law_of.kp, E.F__law_of.binds (fun _ _ _ _ _ _ us hl => match us, hl with | [_, _], _ => rfl)⟩
abbrev f__law_put (K : PySem.W.Frag) : Addr := He.fAd K ("_law_put", none)
abbrev fd__law_put (K : PySem.W.Frag) : FuncData := fdOf K ("_law_put", none)
theorem Env.F__law_put (E : Env K mg) : Fun K "_law_put" "_law_put" s__law_put (f__law_put K) (fd__law_put K) := fun_of E.d 60 rfl
theorem Env.D__law_put (E : Env K mg) : DOk K mg "_law_put" (f__law_put K) (fd__law_put K) ["_law_state", "_law_part"] := ⟨E.glo 60 _ rfl, E.F__law_put.kp, E.F__law_put.binds (fun _ _ _ _ _ _ us hl => match us, hl with | [_, _], _ => rfl)⟩
abbrev f__law_error (K : PySem.W.Frag) : Addr := He.fAd K ("_law_error", none)
abbrev fd__law_error (K : PySem.W.Frag) : FuncData := fdOf K ("_law_error", none)
theorem Env.F__law_error (E : Env K mg) : Fun K "_law_error" "_law_error" s__law_error (f__law_error K) (fd__law_error K) := fun_of E.d 61 rfl
theorem Env.D__law_error (E : Env K mg) : DOk K mg "_law_error" (f__law_error K) (fd__law_error K) ["_law_ask"] := ⟨E.glo 61 _ rfl, E.F__law_error.kp, E.F__law_error.binds (fun _ _ _ _ _ _ us hl => match us, hl with | [_], _ => rfl)⟩
abbrev f__law_files (K : PySem.W.Frag) : Addr := He.fAd K ("_law_files", none)
abbrev fd__law_files (K : PySem.W.Frag) : FuncData := fdOf K ("_law_files", none)
theorem Env.F__law_files (E : Env K mg) : Fun K "_law_files" "_law_files" s__law_files (f__law_files K) (fd__law_files K) := fun_of E.d 62 rfl
theorem Env.D__law_files (E : Env K mg) : DOk K mg "_law_files" (f__law_files K) (fd__law_files K) ["_law_box_here"] := ⟨E.glo 62 _ rfl, E.F__law_files.kp, E.F__law_files.binds (fun _ _ _ _ _ _ us hl => match us, hl with | [_], _ => rfl)⟩
abbrev f__law_due (K : PySem.W.Frag) : Addr := He.fAd K ("_law_due", none)
abbrev fd__law_due (K : PySem.W.Frag) : FuncData := fdOf K ("_law_due", none)
theorem Env.F__law_due (E : Env K mg) : Fun K "_law_due" "_law_due" s__law_due (f__law_due K) (fd__law_due K) := fun_of E.d 63 rfl
theorem Env.D__law_due (E : Env K mg) : DOk K mg "_law_due" (f__law_due K) (fd__law_due K) ["_law_found"] := ⟨E.glo 63 _ rfl, E.F__law_due.kp, E.F__law_due.binds (fun _ _ _ _ _ _ us hl => match us, hl with | [_], _ => rfl)⟩
abbrev f_law (K : PySem.W.Frag) : Addr := He.fAd K ("law", none)
abbrev fd_law (K : PySem.W.Frag) : FuncData := fdOf K ("law", none)
theorem Env.F_law (E : Env K mg) : Fun K "law" "law" s_law (f_law K) (fd_law K) := fun_of E.d 64 rfl
theorem Env.D_law (E : Env K mg) : DOk K mg "law" (f_law K) (fd_law K) ["_law_script"] := ⟨E.glo 64 _ rfl, E.F_law.kp, E.F_law.binds (fun _ _ _ _ _ _ us hl => match us, hl with | [_], _ => rfl)⟩
abbrev f_Mark___init__ (K : PySem.W.Frag) : Addr := He.fAd K ("Mark", some "__init__")
abbrev fd_Mark___init__ (K : PySem.W.Frag) : FuncData := fdOf K ("Mark", some "__init__")
theorem Env.F_Mark___init__ (E : Env K mg) : Fun K "__init__" "Mark.__init__" s_Mark___init__ (f_Mark___init__ K) (fd_Mark___init__ K) := fun_of E.d 65 rfl
theorem Env.C_Mark (E : Env K mg) : COk K mg "Mark" (He.ga K "Mark") (f_Mark___init__ K) (fd_Mark___init__ K) ["self", "index", "name"] := ⟨He.cls_ok (E.d.fact 120 rfl), He.mkr_ok (E.d.fact 123 rfl), E.glo 65 _ rfl, E.F_Mark___init__.binds (fun _ _ _ _ _ _ us hl => match us, hl with | [_, _, _], _ => rfl)⟩
abbrev f_FileTree___init__ (K : PySem.W.Frag) : Addr := He.fAd K ("FileTree", some "__init__")
abbrev fd_FileTree___init__ (K : PySem.W.Frag) : FuncData := fdOf K ("FileTree", some "__init__")
theorem Env.F_FileTree___init__ (E : Env K mg) : Fun K "__init__" "FileTree.__init__" s_FileTree___init__ (f_FileTree___init__ K) (fd_FileTree___init__ K) := fun_of E.d 66 rfl
theorem Env.C_FileTree (E : Env K mg) : COk K mg "FileTree" (He.ga K "FileTree") (f_FileTree___init__ K) (fd_FileTree___init__ K) ["self", "name"] := ⟨He.cls_ok (E.d.fact 124 rfl), He.mkr_ok (E.d.fact 129 rfl), E.glo 66 _ rfl, E.F_FileTree___init__.binds (fun _ _ _ _ _ _ us hl => match us, hl with | [_, _], _ => rfl)⟩
abbrev f_FileTree_owners (K : PySem.W.Frag) : Addr := He.fAd K ("FileTree", some "owners")
abbrev fd_FileTree_owners (K : PySem.W.Frag) : FuncData := fdOf K ("FileTree", some "owners")
theorem Env.F_FileTree_owners (E : Env K mg) : Fun K "owners" "FileTree.owners" s_FileTree_owners (f_FileTree_owners K) (fd_FileTree_owners K) := fun_of E.d 67 rfl
theorem Env.M_FileTree_owners (E : Env K mg) : MOk K (He.ga K "FileTree") "owners" (f_FileTree_owners K) (fd_FileTree_owners K) ["self"] := ⟨He.meth_ok (E.d.fact 130 rfl), E.F_FileTree_owners.binds (fun _ _ _ _ _ _ us hl => match us, hl with | [_], _ => rfl)⟩
abbrev f_FileTree_stocks (K : PySem.W.Frag) : Addr := He.fAd K ("FileTree", some "stocks")
abbrev fd_FileTree_stocks (K : PySem.W.Frag) : FuncData := fdOf K ("FileTree", some "stocks")
theorem Env.F_FileTree_stocks (E : Env K mg) : Fun K "stocks" "FileTree.stocks" s_FileTree_stocks (f_FileTree_stocks K) (fd_FileTree_stocks K) := fun_of E.d 68 rfl
theorem Env.M_FileTree_stocks (E : Env K mg) : MOk K (He.ga K "FileTree") "stocks" (f_FileTree_stocks K) (fd_FileTree_stocks K) ["self"] := ⟨He.meth_ok (E.d.fact 131 rfl), E.F_FileTree_stocks.binds (fun _ _ _ _ _ _ us hl => match us, hl with | [_], _ => rfl)⟩
abbrev f_Owner___init__ (K : PySem.W.Frag) : Addr := He.fAd K ("Owner", some "__init__")
abbrev fd_Owner___init__ (K : PySem.W.Frag) : FuncData := fdOf K ("Owner", some "__init__")
theorem Env.F_Owner___init__ (E : Env K mg) : Fun K "__init__" "Owner.__init__" s_Owner___init__ (f_Owner___init__ K) (fd_Owner___init__ K) := fun_of E.d 69 rfl
theorem Env.C_Owner (E : Env K mg) : COk K mg "Owner" (He.ga K "Owner") (f_Owner___init__ K) (fd_Owner___init__ K) ["self", "file", "mark", "parent", "body"] := ⟨He.cls_ok (E.d.fact 132 rfl), He.mkr_ok (E.d.fact 138 rfl), E.glo 67 _ rfl, E.F_Owner___init__.binds (fun _ _ _ _ _ _ us hl => match us, hl with | [_, _, _, _, _], _ => rfl)⟩
abbrev f_Stock___init__ (K : PySem.W.Frag) : Addr := He.fAd K ("Stock", some "__init__")
abbrev fd_Stock___init__ (K : PySem.W.Frag) : FuncData := fdOf K ("Stock", some "__init__")
theorem Env.F_Stock___init__ (E : Env K mg) : Fun K "__init__" "Stock.__init__" s_Stock___init__ (f_Stock___init__ K) (fd_Stock___init__ K) := fun_of E.d 70 rfl
theorem Env.C_Stock (E : Env K mg) : COk K mg "Stock" (He.ga K "Stock") (f_Stock___init__ K) (fd_Stock___init__ K) ["self", "file", "mark", "columns", "goods"] := ⟨He.cls_ok (E.d.fact 139 rfl), He.mkr_ok (E.d.fact 145 rfl), E.glo 68 _ rfl, E.F_Stock___init__.binds (fun _ _ _ _ _ _ us hl => match us, hl with | [_, _, _, _, _], _ => rfl)⟩
abbrev f_Stock_kinds (K : PySem.W.Frag) : Addr := He.fAd K ("Stock", some "kinds")
abbrev fd_Stock_kinds (K : PySem.W.Frag) : FuncData := fdOf K ("Stock", some "kinds")
theorem Env.F_Stock_kinds (E : Env K mg) : Fun K "kinds" "Stock.kinds" s_Stock_kinds (f_Stock_kinds K) (fd_Stock_kinds K) := fun_of E.d 71 rfl
theorem Env.M_Stock_kinds (E : Env K mg) : MOk K (He.ga K "Stock") "kinds" (f_Stock_kinds K) (fd_Stock_kinds K) ["self"] := ⟨He.meth_ok (E.d.fact 146 rfl), E.F_Stock_kinds.binds (fun _ _ _ _ _ _ us hl => match us, hl with | [_], _ => rfl)⟩
abbrev f_Column___init__ (K : PySem.W.Frag) : Addr := He.fAd K ("Column", some "__init__")
abbrev fd_Column___init__ (K : PySem.W.Frag) : FuncData := fdOf K ("Column", some "__init__")
theorem Env.F_Column___init__ (E : Env K mg) : Fun K "__init__" "Column.__init__" s_Column___init__ (f_Column___init__ K) (fd_Column___init__ K) := fun_of E.d 72 rfl
theorem Env.C_Column (E : Env K mg) : COk K mg "Column" (He.ga K "Column") (f_Column___init__ K) (fd_Column___init__ K) ["self", "mark", "kind"] := ⟨He.cls_ok (E.d.fact 147 rfl), He.mkr_ok (E.d.fact 151 rfl), E.glo 69 _ rfl, E.F_Column___init__.binds (fun _ _ _ _ _ _ us hl => match us, hl with | [_, _, _], _ => rfl)⟩
abbrev f_Body___init__ (K : PySem.W.Frag) : Addr := He.fAd K ("Body", some "__init__")
abbrev fd_Body___init__ (K : PySem.W.Frag) : FuncData := fdOf K ("Body", some "__init__")
theorem Env.F_Body___init__ (E : Env K mg) : Fun K "__init__" "Body.__init__" s_Body___init__ (f_Body___init__ K) (fd_Body___init__ K) := fun_of E.d 73 rfl
theorem Env.C_Body (E : Env K mg) : COk K mg "Body" (He.ga K "Body") (f_Body___init__ K) (fd_Body___init__ K) ["self", "index", "declaring", "entries"] := ⟨He.cls_ok (E.d.fact 152 rfl), He.mkr_ok (E.d.fact 157 rfl), E.glo 70 _ rfl, E.F_Body___init__.binds (fun _ _ _ _ _ _ us hl => match us, hl with | [_, _, _, _], _ => rfl)⟩
abbrev f_Entry___init__ (K : PySem.W.Frag) : Addr := He.fAd K ("Entry", some "__init__")
abbrev fd_Entry___init__ (K : PySem.W.Frag) : FuncData := fdOf K ("Entry", some "__init__")
theorem Env.F_Entry___init__ (E : Env K mg) : Fun K "__init__" "Entry.__init__" s_Entry___init__ (f_Entry___init__ K) (fd_Entry___init__ K) := fun_of E.d 74 rfl
theorem Env.C_Entry (E : Env K mg) : COk K mg "Entry" (He.ga K "Entry") (f_Entry___init__ K) (fd_Entry___init__ K) ["self", "mark", "hidden", "value"] := ⟨He.cls_ok (E.d.fact 158 rfl), He.mkr_ok (E.d.fact 163 rfl), E.glo 71 _ rfl, E.F_Entry___init__.binds (fun _ _ _ _ _ _ us hl => match us, hl with | [_, _, _, _], _ => rfl)⟩
abbrev f_Literal___init__ (K : PySem.W.Frag) : Addr := He.fAd K ("Literal", some "__init__")
abbrev fd_Literal___init__ (K : PySem.W.Frag) : FuncData := fdOf K ("Literal", some "__init__")
theorem Env.F_Literal___init__ (E : Env K mg) : Fun K "__init__" "Literal.__init__" s_Literal___init__ (f_Literal___init__ K) (fd_Literal___init__ K) := fun_of E.d 75 rfl
theorem Env.C_Literal (E : Env K mg) : COk K mg "Literal" (He.ga K "Literal") (f_Literal___init__ K) (fd_Literal___init__ K) ["self", "index", "worth"] := ⟨He.cls_ok (E.d.fact 164 rfl), He.mkr_ok (E.d.fact 167 rfl), E.glo 72 _ rfl, E.F_Literal___init__.binds (fun _ _ _ _ _ _ us hl => match us, hl with | [_, _, _], _ => rfl)⟩
abbrev f_Path___init__ (K : PySem.W.Frag) : Addr := He.fAd K ("Path", some "__init__")
abbrev fd_Path___init__ (K : PySem.W.Frag) : FuncData := fdOf K ("Path", some "__init__")
theorem Env.F_Path___init__ (E : Env K mg) : Fun K "__init__" "Path.__init__" s_Path___init__ (f_Path___init__ K) (fd_Path___init__ K) := fun_of E.d 76 rfl
theorem Env.C_Path (E : Env K mg) : COk K mg "Path" (He.ga K "Path") (f_Path___init__ K) (fd_Path___init__ K) ["self", "index", "parts"] := ⟨He.cls_ok (E.d.fact 168 rfl), He.mkr_ok (E.d.fact 171 rfl), E.glo 73 _ rfl, E.F_Path___init__.binds (fun _ _ _ _ _ _ us hl => match us, hl with | [_, _, _], _ => rfl)⟩
abbrev f_Term___init__ (K : PySem.W.Frag) : Addr := He.fAd K ("Term", some "__init__")
abbrev fd_Term___init__ (K : PySem.W.Frag) : FuncData := fdOf K ("Term", some "__init__")
theorem Env.F_Term___init__ (E : Env K mg) : Fun K "__init__" "Term.__init__" s_Term___init__ (f_Term___init__ K) (fd_Term___init__ K) := fun_of E.d 77 rfl
theorem Env.C_Term (E : Env K mg) : COk K mg "Term" (He.ga K "Term") (f_Term___init__ K) (fd_Term___init__ K) ["self", "factor", "path"] := ⟨He.cls_ok (E.d.fact 172 rfl), He.mkr_ok (E.d.fact 175 rfl), E.glo 74 _ rfl, E.F_Term___init__.binds (fun _ _ _ _ _ _ us hl => match us, hl with | [_, _, _], _ => rfl)⟩
abbrev f_Sum___init__ (K : PySem.W.Frag) : Addr := He.fAd K ("Sum", some "__init__")
abbrev fd_Sum___init__ (K : PySem.W.Frag) : FuncData := fdOf K ("Sum", some "__init__")
theorem Env.F_Sum___init__ (E : Env K mg) : Fun K "__init__" "Sum.__init__" s_Sum___init__ (f_Sum___init__ K) (fd_Sum___init__ K) := fun_of E.d 78 rfl
theorem Env.C_Sum (E : Env K mg) : COk K mg "Sum" (He.ga K "Sum") (f_Sum___init__ K) (fd_Sum___init__ K) ["self", "index", "words", "terms", "alone"] := ⟨He.cls_ok (E.d.fact 176 rfl), He.mkr_ok (E.d.fact 181 rfl), E.glo 75 _ rfl, E.F_Sum___init__.binds (fun _ _ _ _ _ _ us hl => match us, hl with | [_, _, _, _, _], _ => rfl)⟩
abbrev f_Sum_paths (K : PySem.W.Frag) : Addr := He.fAd K ("Sum", some "paths")
abbrev fd_Sum_paths (K : PySem.W.Frag) : FuncData := fdOf K ("Sum", some "paths")
theorem Env.F_Sum_paths (E : Env K mg) : Fun K "paths" "Sum.paths" s_Sum_paths (f_Sum_paths K) (fd_Sum_paths K) := fun_of E.d 79 rfl
theorem Env.M_Sum_paths (E : Env K mg) : MOk K (He.ga K "Sum") "paths" (f_Sum_paths K) (fd_Sum_paths K) ["self"] := ⟨He.meth_ok (E.d.fact 182 rfl), E.F_Sum_paths.binds (fun _ _ _ _ _ _ us hl => match us, hl with | [_], _ => rfl)⟩
abbrev f_Choice___init__ (K : PySem.W.Frag) : Addr := He.fAd K ("Choice", some "__init__")
abbrev fd_Choice___init__ (K : PySem.W.Frag) : FuncData := fdOf K ("Choice", some "__init__")
theorem Env.F_Choice___init__ (E : Env K mg) : Fun K "__init__" "Choice.__init__" s_Choice___init__ (f_Choice___init__ K) (fd_Choice___init__ K) := fun_of E.d 80 rfl
theorem Env.C_Choice (E : Env K mg) : COk K mg "Choice" (He.ga K "Choice") (f_Choice___init__ K) (fd_Choice___init__ K) ["self", "index", "words", "compared", "sides"] := ⟨He.cls_ok (E.d.fact 183 rfl), He.mkr_ok (E.d.fact 189 rfl), E.glo 76 _ rfl, E.F_Choice___init__.binds (fun _ _ _ _ _ _ us hl => match us, hl with | [_, _, _, _, _], _ => rfl)⟩
abbrev f_Choice_paths (K : PySem.W.Frag) : Addr := He.fAd K ("Choice", some "paths")
abbrev fd_Choice_paths (K : PySem.W.Frag) : FuncData := fdOf K ("Choice", some "paths")
theorem Env.F_Choice_paths (E : Env K mg) : Fun K "paths" "Choice.paths" s_Choice_paths (f_Choice_paths K) (fd_Choice_paths K) := fun_of E.d 81 rfl
theorem Env.M_Choice_paths (E : Env K mg) : MOk K (He.ga K "Choice") "paths" (f_Choice_paths K) (fd_Choice_paths K) ["self"] := ⟨He.meth_ok (E.d.fact 190 rfl), E.F_Choice_paths.binds (fun _ _ _ _ _ _ us hl => match us, hl with | [_], _ => rfl)⟩
abbrev f_Record___init__ (K : PySem.W.Frag) : Addr := He.fAd K ("Record", some "__init__")
abbrev fd_Record___init__ (K : PySem.W.Frag) : FuncData := fdOf K ("Record", some "__init__")
theorem Env.F_Record___init__ (E : Env K mg) : Fun K "__init__" "Record.__init__" s_Record___init__ (f_Record___init__ K) (fd_Record___init__ K) := fun_of E.d 82 rfl
theorem Env.C_Record (E : Env K mg) : COk K mg "Record" (He.ga K "Record") (f_Record___init__ K) (fd_Record___init__ K) ["self", "template", "body"] := ⟨He.cls_ok (E.d.fact 191 rfl), He.mkr_ok (E.d.fact 194 rfl), E.glo 77 _ rfl, E.F_Record___init__.binds (fun _ _ _ _ _ _ us hl => match us, hl with | [_, _, _], _ => rfl)⟩
abbrev f_Loop___init__ (K : PySem.W.Frag) : Addr := He.fAd K ("Loop", some "__init__")
abbrev fd_Loop___init__ (K : PySem.W.Frag) : FuncData := fdOf K ("Loop", some "__init__")
theorem Env.F_Loop___init__ (E : Env K mg) : Fun K "__init__" "Loop.__init__" s_Loop___init__ (f_Loop___init__ K) (fd_Loop___init__ K) := fun_of E.d 83 rfl
theorem Env.C_Loop (E : Env K mg) : COk K mg "Loop" (He.ga K "Loop") (f_Loop___init__ K) (fd_Loop___init__ K) ["self", "item", "stock", "where", "record"] := ⟨He.cls_ok (E.d.fact 195 rfl), He.mkr_ok (E.d.fact 201 rfl), E.glo 78 _ rfl, E.F_Loop___init__.binds (fun _ _ _ _ _ _ us hl => match us, hl with | [_, _, _, _, _], _ => rfl)⟩
abbrev f_Where___init__ (K : PySem.W.Frag) : Addr := He.fAd K ("Where", some "__init__")
abbrev fd_Where___init__ (K : PySem.W.Frag) : FuncData := fdOf K ("Where", some "__init__")
theorem Env.F_Where___init__ (E : Env K mg) : Fun K "__init__" "Where.__init__" s_Where___init__ (f_Where___init__ K) (fd_Where___init__ K) := fun_of E.d 84 rfl
theorem Env.C_Where (E : Env K mg) : COk K mg "Where" (He.ga K "Where") (f_Where___init__ K) (fd_Where___init__ K) ["self", "words", "left", "right"] := ⟨He.cls_ok (E.d.fact 202 rfl), He.mkr_ok (E.d.fact 206 rfl), E.glo 79 _ rfl, E.F_Where___init__.binds (fun _ _ _ _ _ _ us hl => match us, hl with | [_, _, _, _], _ => rfl)⟩
abbrev f_Sources___init__ (K : PySem.W.Frag) : Addr := He.fAd K ("Sources", some "__init__")
abbrev fd_Sources___init__ (K : PySem.W.Frag) : FuncData := fdOf K ("Sources", some "__init__")
theorem Env.F_Sources___init__ (E : Env K mg) : Fun K "__init__" "Sources.__init__" s_Sources___init__ (f_Sources___init__ K) (fd_Sources___init__ K) := fun_of E.d 85 rfl
theorem Env.C_Sources (E : Env K mg) : COk K mg "Sources" (He.ga K "Sources") (f_Sources___init__ K) (fd_Sources___init__ K) ["self", "trees"] := ⟨He.cls_ok (E.d.fact 207 rfl), He.mkr_ok (E.d.fact 211 rfl), E.glo 80 _ rfl, E.F_Sources___init__.binds (fun _ _ _ _ _ _ us hl => match us, hl with | [_, _], _ => rfl)⟩
abbrev f_Sources_known_template (K : PySem.W.Frag) : Addr := He.fAd K ("Sources", some "known_template")
abbrev fd_Sources_known_template (K : PySem.W.Frag) : FuncData := fdOf K ("Sources", some "known_template")
theorem Env.F_Sources_known_template (E : Env K mg) : Fun K "known_template" "Sources.known_template" s_Sources_known_template (f_Sources_known_template K) (fd_Sources_known_template K) := fun_of E.d 86 rfl
theorem Env.M_Sources_known_template (E : Env K mg) : MOk K (He.ga K "Sources") "known_template" (f_Sources_known_template K) (fd_Sources_known_template K) ["self", "file", "name"] := ⟨He.meth_ok (E.d.fact 212 rfl), E.F_Sources_known_template.binds (fun _ _ _ _ _ _ us hl => match us, hl with | [_, _, _], _ => rfl)⟩
abbrev f_Sources_known_stock (K : PySem.W.Frag) : Addr := He.fAd K ("Sources", some "known_stock")
abbrev fd_Sources_known_stock (K : PySem.W.Frag) : FuncData := fdOf K ("Sources", some "known_stock")
theorem Env.F_Sources_known_stock (E : Env K mg) : Fun K "known_stock" "Sources.known_stock" s_Sources_known_stock (f_Sources_known_stock K) (fd_Sources_known_stock K) := fun_of E.d 87 rfl
theorem Env.M_Sources_known_stock (E : Env K mg) : MOk K (He.ga K "Sources") "known_stock" (f_Sources_known_stock K) (fd_Sources_known_stock K) ["self", "file", "name"] := ⟨He.meth_ok (E.d.fact 213 rfl), E.F_Sources_known_stock.binds (fun _ _ _ _ _ _ us hl => match us, hl with | [_, _, _], _ => rfl)⟩
abbrev f_Sources_owner_at (K : PySem.W.Frag) : Addr := He.fAd K ("Sources", some "owner_at")
abbrev fd_Sources_owner_at (K : PySem.W.Frag) : FuncData := fdOf K ("Sources", some "owner_at")
theorem Env.F_Sources_owner_at (E : Env K mg) : Fun K "owner_at" "Sources.owner_at" s_Sources_owner_at (f_Sources_owner_at K) (fd_Sources_owner_at K) := fun_of E.d 88 rfl
theorem Env.M_Sources_owner_at (E : Env K mg) : MOk K (He.ga K "Sources") "owner_at" (f_Sources_owner_at K) (fd_Sources_owner_at K) ["self", "file", "name"] := ⟨He.meth_ok (E.d.fact 214 rfl), E.F_Sources_owner_at.binds (fun _ _ _ _ _ _ us hl => match us, hl with | [_, _, _], _ => rfl)⟩
abbrev f_Sources_parent_of (K : PySem.W.Frag) : Addr := He.fAd K ("Sources", some "parent_of")
abbrev fd_Sources_parent_of (K : PySem.W.Frag) : FuncData := fdOf K ("Sources", some "parent_of")
theorem Env.F_Sources_parent_of (E : Env K mg) : Fun K "parent_of" "Sources.parent_of" s_Sources_parent_of (f_Sources_parent_of K) (fd_Sources_parent_of K) := fun_of E.d 89 rfl
theorem Env.M_Sources_parent_of (E : Env K mg) : MOk K (He.ga K "Sources") "parent_of" (f_Sources_parent_of K) (fd_Sources_parent_of K) ["self", "owner"] := ⟨He.meth_ok (E.d.fact 215 rfl), E.F_Sources_parent_of.binds (fun _ _ _ _ _ _ us hl => match us, hl with | [_, _], _ => rfl)⟩
abbrev f_Sources_base_of (K : PySem.W.Frag) : Addr := He.fAd K ("Sources", some "base_of")
abbrev fd_Sources_base_of (K : PySem.W.Frag) : FuncData := fdOf K ("Sources", some "base_of")
theorem Env.F_Sources_base_of (E : Env K mg) : Fun K "base_of" "Sources.base_of" s_Sources_base_of (f_Sources_base_of K) (fd_Sources_base_of K) := fun_of E.d 90 rfl
theorem Env.M_Sources_base_of (E : Env K mg) : MOk K (He.ga K "Sources") "base_of" (f_Sources_base_of K) (fd_Sources_base_of K) ["self", "owner"] := ⟨He.meth_ok (E.d.fact 216 rfl), E.F_Sources_base_of.binds (fun _ _ _ _ _ _ us hl => match us, hl with | [_, _], _ => rfl)⟩
abbrev f_Sources_used (K : PySem.W.Frag) : Addr := He.fAd K ("Sources", some "used")
abbrev fd_Sources_used (K : PySem.W.Frag) : FuncData := fdOf K ("Sources", some "used")
theorem Env.F_Sources_used (E : Env K mg) : Fun K "used" "Sources.used" s_Sources_used (f_Sources_used K) (fd_Sources_used K) := fun_of E.d 91 rfl
theorem Env.M_Sources_used (E : Env K mg) : MOk K (He.ga K "Sources") "used" (f_Sources_used K) (fd_Sources_used K) ["self", "base", "entry"] := ⟨He.meth_ok (E.d.fact 217 rfl), E.F_Sources_used.binds (fun _ _ _ _ _ _ us hl => match us, hl with | [_, _, _], _ => rfl)⟩
abbrev f_Sources_inner (K : PySem.W.Frag) : Addr := He.fAd K ("Sources", some "inner")
abbrev fd_Sources_inner (K : PySem.W.Frag) : FuncData := fdOf K ("Sources", some "inner")
theorem Env.F_Sources_inner (E : Env K mg) : Fun K "inner" "Sources.inner" s_Sources_inner (f_Sources_inner K) (fd_Sources_inner K) := fun_of E.d 92 rfl
theorem Env.M_Sources_inner (E : Env K mg) : MOk K (He.ga K "Sources") "inner" (f_Sources_inner K) (fd_Sources_inner K) ["self", "base", "entry"] := ⟨He.meth_ok (E.d.fact 218 rfl), E.F_Sources_inner.binds (fun _ _ _ _ _ _ us hl => match us, hl with | [_, _, _], _ => rfl)⟩
abbrev f_Sources_field_at (K : PySem.W.Frag) : Addr := He.fAd K ("Sources", some "field_at")
abbrev fd_Sources_field_at (K : PySem.W.Frag) : FuncData := fdOf K ("Sources", some "field_at")
theorem Env.F_Sources_field_at (E : Env K mg) : Fun K "field_at" "Sources.field_at" s_Sources_field_at (f_Sources_field_at K) (fd_Sources_field_at K) := fun_of E.d 93 rfl
theorem Env.M_Sources_field_at (E : Env K mg) : MOk K (He.ga K "Sources") "field_at" (f_Sources_field_at K) (fd_Sources_field_at K) ["self", "owner", "parts"] := ⟨He.meth_ok (E.d.fact 219 rfl), E.F_Sources_field_at.binds (fun _ _ _ _ _ _ us hl => match us, hl with | [_, _, _], _ => rfl)⟩
abbrev f_Given___init__ (K : PySem.W.Frag) : Addr := He.fAd K ("Given", some "__init__")
abbrev fd_Given___init__ (K : PySem.W.Frag) : FuncData := fdOf K ("Given", some "__init__")
theorem Env.F_Given___init__ (E : Env K mg) : Fun K "__init__" "Given.__init__" s_Given___init__ (f_Given___init__ K) (fd_Given___init__ K) := fun_of E.d 94 rfl
theorem Env.C_Given (E : Env K mg) : COk K mg "Given" (He.ga K "Given") (f_Given___init__ K) (fd_Given___init__ K) ["self", "entry", "base", "loop", "declares"] := ⟨He.cls_ok (E.d.fact 220 rfl), He.mkr_ok (E.d.fact 225 rfl), E.glo 81 _ rfl, E.F_Given___init__.binds (fun _ _ _ _ _ _ us hl => match us, hl with | [_, _, _, _, _], _ => rfl)⟩
abbrev f_Given_field (K : PySem.W.Frag) : Addr := He.fAd K ("Given", some "field")
abbrev fd_Given_field (K : PySem.W.Frag) : FuncData := fdOf K ("Given", some "field")
theorem Env.F_Given_field (E : Env K mg) : Fun K "field" "Given.field" s_Given_field (f_Given_field K) (fd_Given_field K) := fun_of E.d 95 rfl
theorem Env.M_Given_field (E : Env K mg) : MOk K (He.ga K "Given") "field" (f_Given_field K) (fd_Given_field K) ["self"] := ⟨He.meth_ok (E.d.fact 226 rfl), E.F_Given_field.binds (fun _ _ _ _ _ _ us hl => match us, hl with | [_], _ => rfl)⟩
abbrev f_Level___init__ (K : PySem.W.Frag) : Addr := He.fAd K ("Level", some "__init__")
abbrev fd_Level___init__ (K : PySem.W.Frag) : FuncData := fdOf K ("Level", some "__init__")
theorem Env.F_Level___init__ (E : Env K mg) : Fun K "__init__" "Level.__init__" s_Level___init__ (f_Level___init__ K) (fd_Level___init__ K) := fun_of E.d 96 rfl
theorem Env.C_Level (E : Env K mg) : COk K mg "Level" (He.ga K "Level") (f_Level___init__ K) (fd_Level___init__ K) ["self", "owner", "path", "home", "shows"] := ⟨He.cls_ok (E.d.fact 227 rfl), He.mkr_ok (E.d.fact 233 rfl), E.glo 82 _ rfl, E.F_Level___init__.binds (fun _ _ _ _ _ _ us hl => match us, hl with | [_, _, _, _, _], _ => rfl)⟩
abbrev f_BadFiles___init__ (K : PySem.W.Frag) : Addr := He.fAd K ("BadFiles", some "__init__")
abbrev fd_BadFiles___init__ (K : PySem.W.Frag) : FuncData := fdOf K ("BadFiles", some "__init__")
theorem Env.F_BadFiles___init__ (E : Env K mg) : Fun K "__init__" "BadFiles.__init__" s_BadFiles___init__ (f_BadFiles___init__ K) (fd_BadFiles___init__ K) := fun_of E.d 97 rfl
theorem Env.B_BadFiles___init__ (E : Env K mg) : Binds K (fd_BadFiles___init__ K) ["self", "value"] [] := E.F_BadFiles___init__.binds (fun _ _ _ _ _ _ us hl => match us, hl with | [_, _], _ => rfl)
abbrev f_SourceError___init__ (K : PySem.W.Frag) : Addr := He.fAd K ("SourceError", some "__init__")
abbrev fd_SourceError___init__ (K : PySem.W.Frag) : FuncData := fdOf K ("SourceError", some "__init__")
theorem Env.F_SourceError___init__ (E : Env K mg) : Fun K "__init__" "SourceError.__init__" s_SourceError___init__ (f_SourceError___init__ K) (fd_SourceError___init__ K) := fun_of E.d 98 rfl
theorem Env.B_SourceError___init__ (E : Env K mg) : Binds K (fd_SourceError___init__ K) ["self", "word", "file", "index"] [] := E.F_SourceError___init__.binds (fun _ _ _ _ _ _ us hl => match us, hl with | [_, _, _, _], _ => rfl)
abbrev f_NoFile___init__ (K : PySem.W.Frag) : Addr := He.fAd K ("NoFile", some "__init__")
abbrev fd_NoFile___init__ (K : PySem.W.Frag) : FuncData := fdOf K ("NoFile", some "__init__")
theorem Env.F_NoFile___init__ (E : Env K mg) : Fun K "__init__" "NoFile.__init__" s_NoFile___init__ (f_NoFile___init__ K) (fd_NoFile___init__ K) := fun_of E.d 99 rfl
theorem Env.B_NoFile___init__ (E : Env K mg) : Binds K (fd_NoFile___init__ K) ["self", "value"] [] := E.F_NoFile___init__.binds (fun _ _ _ _ _ _ us hl => match us, hl with | [_, _], _ => rfl)
abbrev f_Parser___init__ (K : PySem.W.Frag) : Addr := He.fAd K ("Parser", some "__init__")
abbrev fd_Parser___init__ (K : PySem.W.Frag) : FuncData := fdOf K ("Parser", some "__init__")
theorem Env.F_Parser___init__ (E : Env K mg) : Fun K "__init__" "Parser.__init__" s_Parser___init__ (f_Parser___init__ K) (fd_Parser___init__ K) := fun_of E.d 100 rfl
theorem Env.C_Parser (E : Env K mg) : COk K mg "Parser" (He.ga K "Parser") (f_Parser___init__ K) (fd_Parser___init__ K) ["self", "file", "text"] := ⟨He.cls_ok (E.d.fact 234 rfl), He.mkr_ok (E.d.fact 239 rfl), E.glo 87 _ rfl, E.F_Parser___init__.binds (fun _ _ _ _ _ _ us hl => match us, hl with | [_, _, _], _ => rfl)⟩
abbrev f_Parser_here (K : PySem.W.Frag) : Addr := He.fAd K ("Parser", some "here")
abbrev fd_Parser_here (K : PySem.W.Frag) : FuncData := fdOf K ("Parser", some "here")
theorem Env.F_Parser_here (E : Env K mg) : Fun K "here" "Parser.here" s_Parser_here (f_Parser_here K) (fd_Parser_here K) := fun_of E.d 101 rfl
theorem Env.M_Parser_here (E : Env K mg) : MOk K (He.ga K "Parser") "here" (f_Parser_here K) (fd_Parser_here K) ["self"] := ⟨He.meth_ok (E.d.fact 240 rfl), E.F_Parser_here.binds (fun _ _ _ _ _ _ us hl => match us, hl with | [_], _ => rfl)⟩
abbrev f_Parser_token (K : PySem.W.Frag) : Addr := He.fAd K ("Parser", some "token")
abbrev fd_Parser_token (K : PySem.W.Frag) : FuncData := fdOf K ("Parser", some "token")
theorem Env.F_Parser_token (E : Env K mg) : Fun K "token" "Parser.token" s_Parser_token (f_Parser_token K) (fd_Parser_token K) := fun_of E.d 102 rfl
theorem Env.M_Parser_token (E : Env K mg) : MOk K (He.ga K "Parser") "token" (f_Parser_token K) (fd_Parser_token K) ["self"] := ⟨He.meth_ok (E.d.fact 241 rfl), E.F_Parser_token.binds (fun _ _ _ _ _ _ us hl => match us, hl with | [_], _ => rfl)⟩
abbrev f_Parser_take (K : PySem.W.Frag) : Addr := He.fAd K ("Parser", some "take")
abbrev fd_Parser_take (K : PySem.W.Frag) : FuncData := fdOf K ("Parser", some "take")
theorem Env.F_Parser_take (E : Env K mg) : Fun K "take" "Parser.take" s_Parser_take (f_Parser_take K) (fd_Parser_take K) := fun_of E.d 103 rfl
theorem Env.M_Parser_take (E : Env K mg) : MOk K (He.ga K "Parser") "take" (f_Parser_take K) (fd_Parser_take K) ["self"] := ⟨He.meth_ok (E.d.fact 242 rfl), E.F_Parser_take.binds (fun _ _ _ _ _ _ us hl => match us, hl with | [_], _ => rfl)⟩
abbrev f_Parser_refuse (K : PySem.W.Frag) : Addr := He.fAd K ("Parser", some "refuse")
abbrev fd_Parser_refuse (K : PySem.W.Frag) : FuncData := fdOf K ("Parser", some "refuse")
theorem Env.F_Parser_refuse (E : Env K mg) : Fun K "refuse" "Parser.refuse" s_Parser_refuse (f_Parser_refuse K) (fd_Parser_refuse K) := fun_of E.d 104 rfl
theorem Env.M_Parser_refuse (E : Env K mg) : MOk K (He.ga K "Parser") "refuse" (f_Parser_refuse K) (fd_Parser_refuse K) ["self"] := ⟨He.meth_ok (E.d.fact 243 rfl), E.F_Parser_refuse.binds (fun _ _ _ _ _ _ us hl => match us, hl with | [_], _ => rfl)⟩
abbrev f_Parser_expect (K : PySem.W.Frag) : Addr := He.fAd K ("Parser", some "expect")
abbrev fd_Parser_expect (K : PySem.W.Frag) : FuncData := fdOf K ("Parser", some "expect")
theorem Env.F_Parser_expect (E : Env K mg) : Fun K "expect" "Parser.expect" s_Parser_expect (f_Parser_expect K) (fd_Parser_expect K) := fun_of E.d 105 rfl
theorem Env.M_Parser_expect (E : Env K mg) : MOk K (He.ga K "Parser") "expect" (f_Parser_expect K) (fd_Parser_expect K) ["self", "token"] := ⟨He.meth_ok (E.d.fact 244 rfl), E.F_Parser_expect.binds (fun _ _ _ _ _ _ us hl => match us, hl with | [_, _], _ => rfl)⟩
abbrev f_Parser_accepts (K : PySem.W.Frag) : Addr := He.fAd K ("Parser", some "accepts")
abbrev fd_Parser_accepts (K : PySem.W.Frag) : FuncData := fdOf K ("Parser", some "accepts")
theorem Env.F_Parser_accepts (E : Env K mg) : Fun K "accepts" "Parser.accepts" s_Parser_accepts (f_Parser_accepts K) (fd_Parser_accepts K) := fun_of E.d 106 rfl
theorem Env.M_Parser_accepts (E : Env K mg) : MOk K (He.ga K "Parser") "accepts" (f_Parser_accepts K) (fd_Parser_accepts K) ["self", "token"] := ⟨He.meth_ok (E.d.fact 245 rfl), E.F_Parser_accepts.binds (fun _ _ _ _ _ _ us hl => match us, hl with | [_, _], _ => rfl)⟩
abbrev f_Parser_text_from (K : PySem.W.Frag) : Addr := He.fAd K ("Parser", some "text_from")
abbrev fd_Parser_text_from (K : PySem.W.Frag) : FuncData := fdOf K ("Parser", some "text_from")
theorem Env.F_Parser_text_from (E : Env K mg) : Fun K "text_from" "Parser.text_from" s_Parser_text_from (f_Parser_text_from K) (fd_Parser_text_from K) := fun_of E.d 107 rfl
theorem Env.M_Parser_text_from (E : Env K mg) : MOk K (He.ga K "Parser") "text_from" (f_Parser_text_from K) (fd_Parser_text_from K) ["self", "start"] := ⟨He.meth_ok (E.d.fact 246 rfl), E.F_Parser_text_from.binds (fun _ _ _ _ _ _ us hl => match us, hl with | [_, _], _ => rfl)⟩
abbrev f_Parser_read_name (K : PySem.W.Frag) : Addr := He.fAd K ("Parser", some "read_name")
abbrev fd_Parser_read_name (K : PySem.W.Frag) : FuncData := fdOf K ("Parser", some "read_name")
theorem Env.F_Parser_read_name (E : Env K mg) : Fun K "read_name" "Parser.read_name" s_Parser_read_name (f_Parser_read_name K) (fd_Parser_read_name K) := fun_of E.d 108 rfl
theorem Env.M_Parser_read_name (E : Env K mg) : MOk K (He.ga K "Parser") "read_name" (f_Parser_read_name K) (fd_Parser_read_name K) ["self"] := ⟨He.meth_ok (E.d.fact 247 rfl), E.F_Parser_read_name.binds (fun _ _ _ _ _ _ us hl => match us, hl with | [_], _ => rfl)⟩
abbrev f_Parser_read_file (K : PySem.W.Frag) : Addr := He.fAd K ("Parser", some "read_file")
abbrev fd_Parser_read_file (K : PySem.W.Frag) : FuncData := fdOf K ("Parser", some "read_file")
theorem Env.F_Parser_read_file (E : Env K mg) : Fun K "read_file" "Parser.read_file" s_Parser_read_file (f_Parser_read_file K) (fd_Parser_read_file K) := fun_of E.d 109 rfl
theorem Env.M_Parser_read_file (E : Env K mg) : MOk K (He.ga K "Parser") "read_file" (f_Parser_read_file K) (fd_Parser_read_file K) ["self"] := ⟨He.meth_ok (E.d.fact 248 rfl), E.F_Parser_read_file.binds (fun _ _ _ _ _ _ us hl => match us, hl with | [_], _ => rfl)⟩
abbrev f_Parser_read_template (K : PySem.W.Frag) : Addr := He.fAd K ("Parser", some "read_template")
abbrev fd_Parser_read_template (K : PySem.W.Frag) : FuncData := fdOf K ("Parser", some "read_template")
theorem Env.F_Parser_read_template (E : Env K mg) : Fun K "read_template" "Parser.read_template" s_Parser_read_template (f_Parser_read_template K) (fd_Parser_read_template K) := fun_of E.d 110 rfl
theorem Env.M_Parser_read_template (E : Env K mg) : MOk K (He.ga K "Parser") "read_template" (f_Parser_read_template K) (fd_Parser_read_template K) ["self"] := ⟨He.meth_ok (E.d.fact 249 rfl), E.F_Parser_read_template.binds (fun _ _ _ _ _ _ us hl => match us, hl with | [_], _ => rfl)⟩
abbrev f_Parser_read_stock (K : PySem.W.Frag) : Addr := He.fAd K ("Parser", some "read_stock")
abbrev fd_Parser_read_stock (K : PySem.W.Frag) : FuncData := fdOf K ("Parser", some "read_stock")
theorem Env.F_Parser_read_stock (E : Env K mg) : Fun K "read_stock" "Parser.read_stock" s_Parser_read_stock (f_Parser_read_stock K) (fd_Parser_read_stock K) := fun_of E.d 111 rfl
theorem Env.M_Parser_read_stock (E : Env K mg) : MOk K (He.ga K "Parser") "read_stock" (f_Parser_read_stock K) (fd_Parser_read_stock K) ["self"] := ⟨He.meth_ok (E.d.fact 250 rfl), E.F_Parser_read_stock.binds (fun _ _ _ _ _ _ us hl => match us, hl with | [_], _ => rfl)⟩
abbrev f_Parser_read_columns (K : PySem.W.Frag) : Addr := He.fAd K ("Parser", some "read_columns")
abbrev fd_Parser_read_columns (K : PySem.W.Frag) : FuncData := fdOf K ("Parser", some "read_columns")
theorem Env.F_Parser_read_columns (E : Env K mg) : Fun K "read_columns" "Parser.read_columns" s_Parser_read_columns (f_Parser_read_columns K) (fd_Parser_read_columns K) := fun_of E.d 112 rfl
theorem Env.M_Parser_read_columns (E : Env K mg) : MOk K (He.ga K "Parser") "read_columns" (f_Parser_read_columns K) (fd_Parser_read_columns K) ["self"] := ⟨He.meth_ok (E.d.fact 251 rfl), E.F_Parser_read_columns.binds (fun _ _ _ _ _ _ us hl => match us, hl with | [_], _ => rfl)⟩
abbrev f_Parser_read_column (K : PySem.W.Frag) : Addr := He.fAd K ("Parser", some "read_column")
abbrev fd_Parser_read_column (K : PySem.W.Frag) : FuncData := fdOf K ("Parser", some "read_column")
theorem Env.F_Parser_read_column (E : Env K mg) : Fun K "read_column" "Parser.read_column" s_Parser_read_column (f_Parser_read_column K) (fd_Parser_read_column K) := fun_of E.d 113 rfl
theorem Env.M_Parser_read_column (E : Env K mg) : MOk K (He.ga K "Parser") "read_column" (f_Parser_read_column K) (fd_Parser_read_column K) ["self"] := ⟨He.meth_ok (E.d.fact 252 rfl), E.F_Parser_read_column.binds (fun _ _ _ _ _ _ us hl => match us, hl with | [_], _ => rfl)⟩
abbrev f_Parser_read_item (K : PySem.W.Frag) : Addr := He.fAd K ("Parser", some "read_item")
abbrev fd_Parser_read_item (K : PySem.W.Frag) : FuncData := fdOf K ("Parser", some "read_item")
theorem Env.F_Parser_read_item (E : Env K mg) : Fun K "read_item" "Parser.read_item" s_Parser_read_item (f_Parser_read_item K) (fd_Parser_read_item K) := fun_of E.d 114 rfl
theorem Env.M_Parser_read_item (E : Env K mg) : MOk K (He.ga K "Parser") "read_item" (f_Parser_read_item K) (fd_Parser_read_item K) ["self"] := ⟨He.meth_ok (E.d.fact 253 rfl), E.F_Parser_read_item.binds (fun _ _ _ _ _ _ us hl => match us, hl with | [_], _ => rfl)⟩
abbrev f_Parser_read_body (K : PySem.W.Frag) : Addr := He.fAd K ("Parser", some "read_body")
abbrev fd_Parser_read_body (K : PySem.W.Frag) : FuncData := fdOf K ("Parser", some "read_body")
theorem Env.F_Parser_read_body (E : Env K mg) : Fun K "read_body" "Parser.read_body" s_Parser_read_body (f_Parser_read_body K) (fd_Parser_read_body K) := fun_of E.d 115 rfl
theorem Env.M_Parser_read_body (E : Env K mg) : MOk K (He.ga K "Parser") "read_body" (f_Parser_read_body K) (fd_Parser_read_body K) ["self", "declaring"] := ⟨He.meth_ok (E.d.fact 254 rfl), E.F_Parser_read_body.binds (fun _ _ _ _ _ _ us hl => match us, hl with | [_, _], _ => rfl)⟩
abbrev f_Parser_read_entry (K : PySem.W.Frag) : Addr := He.fAd K ("Parser", some "read_entry")
abbrev fd_Parser_read_entry (K : PySem.W.Frag) : FuncData := fdOf K ("Parser", some "read_entry")
theorem Env.F_Parser_read_entry (E : Env K mg) : Fun K "read_entry" "Parser.read_entry" s_Parser_read_entry (f_Parser_read_entry K) (fd_Parser_read_entry K) := fun_of E.d 116 rfl
theorem Env.M_Parser_read_entry (E : Env K mg) : MOk K (He.ga K "Parser") "read_entry" (f_Parser_read_entry K) (fd_Parser_read_entry K) ["self", "declaring"] := ⟨He.meth_ok (E.d.fact 255 rfl), E.F_Parser_read_entry.binds (fun _ _ _ _ _ _ us hl => match us, hl with | [_, _], _ => rfl)⟩
abbrev f_Parser_read_value (K : PySem.W.Frag) : Addr := He.fAd K ("Parser", some "read_value")
abbrev fd_Parser_read_value (K : PySem.W.Frag) : FuncData := fdOf K ("Parser", some "read_value")
theorem Env.F_Parser_read_value (E : Env K mg) : Fun K "read_value" "Parser.read_value" s_Parser_read_value (f_Parser_read_value K) (fd_Parser_read_value K) := fun_of E.d 117 rfl
theorem Env.M_Parser_read_value (E : Env K mg) : MOk K (He.ga K "Parser") "read_value" (f_Parser_read_value K) (fd_Parser_read_value K) ["self", "declaring", "hidden"] := ⟨He.meth_ok (E.d.fact 256 rfl), E.F_Parser_read_value.binds (fun _ _ _ _ _ _ us hl => match us, hl with | [_, _, _], _ => rfl)⟩
abbrev f_Parser_read_record (K : PySem.W.Frag) : Addr := He.fAd K ("Parser", some "read_record")
abbrev fd_Parser_read_record (K : PySem.W.Frag) : FuncData := fdOf K ("Parser", some "read_record")
theorem Env.F_Parser_read_record (E : Env K mg) : Fun K "read_record" "Parser.read_record" s_Parser_read_record (f_Parser_read_record K) (fd_Parser_read_record K) := fun_of E.d 118 rfl
theorem Env.M_Parser_read_record (E : Env K mg) : MOk K (He.ga K "Parser") "read_record" (f_Parser_read_record K) (fd_Parser_read_record K) ["self", "word"] := ⟨He.meth_ok (E.d.fact 257 rfl), E.F_Parser_read_record.binds (fun _ _ _ _ _ _ us hl => match us, hl with | [_, _], _ => rfl)⟩
abbrev f_Parser_read_loop (K : PySem.W.Frag) : Addr := He.fAd K ("Parser", some "read_loop")
abbrev fd_Parser_read_loop (K : PySem.W.Frag) : FuncData := fdOf K ("Parser", some "read_loop")
theorem Env.F_Parser_read_loop (E : Env K mg) : Fun K "read_loop" "Parser.read_loop" s_Parser_read_loop (f_Parser_read_loop K) (fd_Parser_read_loop K) := fun_of E.d 119 rfl
theorem Env.M_Parser_read_loop (E : Env K mg) : MOk K (He.ga K "Parser") "read_loop" (f_Parser_read_loop K) (fd_Parser_read_loop K) ["self"] := ⟨He.meth_ok (E.d.fact 258 rfl), E.F_Parser_read_loop.binds (fun _ _ _ _ _ _ us hl => match us, hl with | [_], _ => rfl)⟩
abbrev f_Parser_read_where (K : PySem.W.Frag) : Addr := He.fAd K ("Parser", some "read_where")
abbrev fd_Parser_read_where (K : PySem.W.Frag) : FuncData := fdOf K ("Parser", some "read_where")
theorem Env.F_Parser_read_where (E : Env K mg) : Fun K "read_where" "Parser.read_where" s_Parser_read_where (f_Parser_read_where K) (fd_Parser_read_where K) := fun_of E.d 120 rfl
theorem Env.M_Parser_read_where (E : Env K mg) : MOk K (He.ga K "Parser") "read_where" (f_Parser_read_where K) (fd_Parser_read_where K) ["self"] := ⟨He.meth_ok (E.d.fact 259 rfl), E.F_Parser_read_where.binds (fun _ _ _ _ _ _ us hl => match us, hl with | [_], _ => rfl)⟩
abbrev f_Parser_read_choice (K : PySem.W.Frag) : Addr := He.fAd K ("Parser", some "read_choice")
abbrev fd_Parser_read_choice (K : PySem.W.Frag) : FuncData := fdOf K ("Parser", some "read_choice")
theorem Env.F_Parser_read_choice (E : Env K mg) : Fun K "read_choice" "Parser.read_choice" s_Parser_read_choice (f_Parser_read_choice K) (fd_Parser_read_choice K) := fun_of E.d 121 rfl
theorem Env.M_Parser_read_choice (E : Env K mg) : MOk K (He.ga K "Parser") "read_choice" (f_Parser_read_choice K) (fd_Parser_read_choice K) ["self"] := ⟨He.meth_ok (E.d.fact 260 rfl), E.F_Parser_read_choice.binds (fun _ _ _ _ _ _ us hl => match us, hl with | [_], _ => rfl)⟩
abbrev f_Parser_read_simple (K : PySem.W.Frag) : Addr := He.fAd K ("Parser", some "read_simple")
abbrev fd_Parser_read_simple (K : PySem.W.Frag) : FuncData := fdOf K ("Parser", some "read_simple")
theorem Env.F_Parser_read_simple (E : Env K mg) : Fun K "read_simple" "Parser.read_simple" s_Parser_read_simple (f_Parser_read_simple K) (fd_Parser_read_simple K) := fun_of E.d 122 rfl
theorem Env.M_Parser_read_simple (E : Env K mg) : MOk K (He.ga K "Parser") "read_simple" (f_Parser_read_simple K) (fd_Parser_read_simple K) ["self"] := ⟨He.meth_ok (E.d.fact 261 rfl), E.F_Parser_read_simple.binds (fun _ _ _ _ _ _ us hl => match us, hl with | [_], _ => rfl)⟩
abbrev f_Parser_read_term (K : PySem.W.Frag) : Addr := He.fAd K ("Parser", some "read_term")
abbrev fd_Parser_read_term (K : PySem.W.Frag) : FuncData := fdOf K ("Parser", some "read_term")
theorem Env.F_Parser_read_term (E : Env K mg) : Fun K "read_term" "Parser.read_term" s_Parser_read_term (f_Parser_read_term K) (fd_Parser_read_term K) := fun_of E.d 123 rfl
theorem Env.M_Parser_read_term (E : Env K mg) : MOk K (He.ga K "Parser") "read_term" (f_Parser_read_term K) (fd_Parser_read_term K) ["self", "sign"] := ⟨He.meth_ok (E.d.fact 262 rfl), E.F_Parser_read_term.binds (fun _ _ _ _ _ _ us hl => match us, hl with | [_, _], _ => rfl)⟩
abbrev f_Parser_read_digits (K : PySem.W.Frag) : Addr := He.fAd K ("Parser", some "read_digits")
abbrev fd_Parser_read_digits (K : PySem.W.Frag) : FuncData := fdOf K ("Parser", some "read_digits")
theorem Env.F_Parser_read_digits (E : Env K mg) : Fun K "read_digits" "Parser.read_digits" s_Parser_read_digits (f_Parser_read_digits K) (fd_Parser_read_digits K) := fun_of E.d 124 rfl
theorem Env.M_Parser_read_digits (E : Env K mg) : MOk K (He.ga K "Parser") "read_digits" (f_Parser_read_digits K) (fd_Parser_read_digits K) ["self"] := ⟨He.meth_ok (E.d.fact 263 rfl), E.F_Parser_read_digits.binds (fun _ _ _ _ _ _ us hl => match us, hl with | [_], _ => rfl)⟩
abbrev f_Parser_read_literal (K : PySem.W.Frag) : Addr := He.fAd K ("Parser", some "read_literal")
abbrev fd_Parser_read_literal (K : PySem.W.Frag) : FuncData := fdOf K ("Parser", some "read_literal")
theorem Env.F_Parser_read_literal (E : Env K mg) : Fun K "read_literal" "Parser.read_literal" s_Parser_read_literal (f_Parser_read_literal K) (fd_Parser_read_literal K) := fun_of E.d 125 rfl
theorem Env.M_Parser_read_literal (E : Env K mg) : MOk K (He.ga K "Parser") "read_literal" (f_Parser_read_literal K) (fd_Parser_read_literal K) ["self"] := ⟨He.meth_ok (E.d.fact 264 rfl), E.F_Parser_read_literal.binds (fun _ _ _ _ _ _ us hl => match us, hl with | [_], _ => rfl)⟩
abbrev f_Parser_read_path (K : PySem.W.Frag) : Addr := He.fAd K ("Parser", some "read_path")
abbrev fd_Parser_read_path (K : PySem.W.Frag) : FuncData := fdOf K ("Parser", some "read_path")
theorem Env.F_Parser_read_path (E : Env K mg) : Fun K "read_path" "Parser.read_path" s_Parser_read_path (f_Parser_read_path K) (fd_Parser_read_path K) := fun_of E.d 126 rfl
theorem Env.M_Parser_read_path (E : Env K mg) : MOk K (He.ga K "Parser") "read_path" (f_Parser_read_path K) (fd_Parser_read_path K) ["self"] := ⟨He.meth_ok (E.d.fact 265 rfl), E.F_Parser_read_path.binds (fun _ _ _ _ _ _ us hl => match us, hl with | [_], _ => rfl)⟩
abbrev f_Kinds___init__ (K : PySem.W.Frag) : Addr := He.fAd K ("Kinds", some "__init__")
abbrev fd_Kinds___init__ (K : PySem.W.Frag) : FuncData := fdOf K ("Kinds", some "__init__")
theorem Env.F_Kinds___init__ (E : Env K mg) : Fun K "__init__" "Kinds.__init__" s_Kinds___init__ (f_Kinds___init__ K) (fd_Kinds___init__ K) := fun_of E.d 127 rfl
theorem Env.C_Kinds (E : Env K mg) : COk K mg "Kinds" (He.ga K "Kinds") (f_Kinds___init__ K) (fd_Kinds___init__ K) ["self", "sources"] := ⟨He.cls_ok (E.d.fact 266 rfl), He.mkr_ok (E.d.fact 270 rfl), E.glo 88 _ rfl, E.F_Kinds___init__.binds (fun _ _ _ _ _ _ us hl => match us, hl with | [_, _], _ => rfl)⟩
abbrev f_Kinds_of (K : PySem.W.Frag) : Addr := He.fAd K ("Kinds", some "of")
abbrev fd_Kinds_of (K : PySem.W.Frag) : FuncData := fdOf K ("Kinds", some "of")
theorem Env.F_Kinds_of (E : Env K mg) : Fun K "of" "Kinds.of" s_Kinds_of (f_Kinds_of K) (fd_Kinds_of K) := fun_of E.d 128 rfl
theorem Env.M_Kinds_of (E : Env K mg) : MOk K (He.ga K "Kinds") "of" (f_Kinds_of K) (fd_Kinds_of K) ["self", "base", "entry"] := ⟨He.meth_ok (E.d.fact 271 rfl), E.F_Kinds_of.binds (fun _ _ _ _ _ _ us hl => match us, hl with | [_, _, _], _ => rfl)⟩
abbrev f_Kinds_path_kind (K : PySem.W.Frag) : Addr := He.fAd K ("Kinds", some "path_kind")
abbrev fd_Kinds_path_kind (K : PySem.W.Frag) : FuncData := fdOf K ("Kinds", some "path_kind")
theorem Env.F_Kinds_path_kind (E : Env K mg) : Fun K "path_kind" "Kinds.path_kind" s_Kinds_path_kind (f_Kinds_path_kind K) (fd_Kinds_path_kind K) := fun_of E.d 129 rfl
theorem Env.M_Kinds_path_kind (E : Env K mg) : MOk K (He.ga K "Kinds") "path_kind" (f_Kinds_path_kind K) (fd_Kinds_path_kind K) ["self", "owner", "loop", "path"] := ⟨He.meth_ok (E.d.fact 272 rfl), E.F_Kinds_path_kind.binds (fun _ _ _ _ _ _ us hl => match us, hl with | [_, _, _, _], _ => rfl)⟩
abbrev f_Kinds_search (K : PySem.W.Frag) : Addr := He.fAd K ("Kinds", some "search")
abbrev fd_Kinds_search (K : PySem.W.Frag) : FuncData := fdOf K ("Kinds", some "search")
theorem Env.F_Kinds_search (E : Env K mg) : Fun K "search" "Kinds.search" s_Kinds_search (f_Kinds_search K) (fd_Kinds_search K) := fun_of E.d 130 rfl
theorem Env.M_Kinds_search (E : Env K mg) : MOk K (He.ga K "Kinds") "search" (f_Kinds_search K) (fd_Kinds_search K) ["self", "start"] := ⟨He.meth_ok (E.d.fact 273 rfl), E.F_Kinds_search.binds (fun _ _ _ _ _ _ us hl => match us, hl with | [_, _], _ => rfl)⟩
abbrev f_Kinds_keep (K : PySem.W.Frag) : Addr := He.fAd K ("Kinds", some "keep")
abbrev fd_Kinds_keep (K : PySem.W.Frag) : FuncData := fdOf K ("Kinds", some "keep")
theorem Env.F_Kinds_keep (E : Env K mg) : Fun K "keep" "Kinds.keep" s_Kinds_keep (f_Kinds_keep K) (fd_Kinds_keep K) := fun_of E.d 131 rfl
theorem Env.M_Kinds_keep (E : Env K mg) : MOk K (He.ga K "Kinds") "keep" (f_Kinds_keep K) (fd_Kinds_keep K) ["self", "trail", "kind"] := ⟨He.meth_ok (E.d.fact 274 rfl), E.F_Kinds_keep.binds (fun _ _ _ _ _ _ us hl => match us, hl with | [_, _, _], _ => rfl)⟩
abbrev f_Kinds_candidates (K : PySem.W.Frag) : Addr := He.fAd K ("Kinds", some "candidates")
abbrev fd_Kinds_candidates (K : PySem.W.Frag) : FuncData := fdOf K ("Kinds", some "candidates")
theorem Env.F_Kinds_candidates (E : Env K mg) : Fun K "candidates" "Kinds.candidates" s_Kinds_candidates (f_Kinds_candidates K) (fd_Kinds_candidates K) := fun_of E.d 132 rfl
theorem Env.M_Kinds_candidates (E : Env K mg) : MOk K (He.ga K "Kinds") "candidates" (f_Kinds_candidates K) (fd_Kinds_candidates K) ["self", "field"] := ⟨He.meth_ok (E.d.fact 275 rfl), E.F_Kinds_candidates.binds (fun _ _ _ _ _ _ us hl => match us, hl with | [_, _], _ => rfl)⟩
abbrev f_Kinds_told_by (K : PySem.W.Frag) : Addr := He.fAd K ("Kinds", some "told_by")
abbrev fd_Kinds_told_by (K : PySem.W.Frag) : FuncData := fdOf K ("Kinds", some "told_by")
theorem Env.F_Kinds_told_by (E : Env K mg) : Fun K "told_by" "Kinds.told_by" s_Kinds_told_by (f_Kinds_told_by K) (fd_Kinds_told_by K) := fun_of E.d 133 rfl
theorem Env.M_Kinds_told_by (E : Env K mg) : MOk K (He.ga K "Kinds") "told_by" (f_Kinds_told_by K) (fd_Kinds_told_by K) ["self", "owner", "simple"] := ⟨He.meth_ok (E.d.fact 276 rfl), E.F_Kinds_told_by.binds (fun _ _ _ _ _ _ us hl => match us, hl with | [_, _, _], _ => rfl)⟩
abbrev f_Project___init__ (K : PySem.W.Frag) : Addr := He.fAd K ("Project", some "__init__")
abbrev fd_Project___init__ (K : PySem.W.Frag) : FuncData := fdOf K ("Project", some "__init__")
theorem Env.F_Project___init__ (E : Env K mg) : Fun K "__init__" "Project.__init__" s_Project___init__ (f_Project___init__ K) (fd_Project___init__ K) := fun_of E.d 134 rfl
theorem Env.C_Project (E : Env K mg) : COk K mg "Project" (He.ga K "Project") (f_Project___init__ K) (fd_Project___init__ K) ["self", "files"] := ⟨He.cls_ok (E.d.fact 277 rfl), He.mkr_ok (E.d.fact 283 rfl), E.glo 89 _ rfl, E.F_Project___init__.binds (fun _ _ _ _ _ _ us hl => match us, hl with | [_, _], _ => rfl)⟩
abbrev f_Project___getitem__ (K : PySem.W.Frag) : Addr := He.fAd K ("Project", some "__getitem__")
abbrev fd_Project___getitem__ (K : PySem.W.Frag) : FuncData := fdOf K ("Project", some "__getitem__")
theorem Env.F_Project___getitem__ (E : Env K mg) : Fun K "__getitem__" "Project.__getitem__" s_Project___getitem__ (f_Project___getitem__ K) (fd_Project___getitem__ K) := fun_of E.d 135 rfl
theorem Env.M_Project___getitem__ (E : Env K mg) : MOk K (He.ga K "Project") "__getitem__" (f_Project___getitem__ K) (fd_Project___getitem__ K) ["self", "at"] := ⟨He.meth_ok (E.d.fact 284 rfl), E.F_Project___getitem__.binds (fun _ _ _ _ _ _ us hl => match us, hl with | [_, _], _ => rfl)⟩
abbrev f_Project___iter__ (K : PySem.W.Frag) : Addr := He.fAd K ("Project", some "__iter__")
abbrev fd_Project___iter__ (K : PySem.W.Frag) : FuncData := fdOf K ("Project", some "__iter__")
theorem Env.F_Project___iter__ (E : Env K mg) : Fun K "__iter__" "Project.__iter__" s_Project___iter__ (f_Project___iter__ K) (fd_Project___iter__ K) := fun_of E.d 136 rfl
theorem Env.M_Project___iter__ (E : Env K mg) : MOk K (He.ga K "Project") "__iter__" (f_Project___iter__ K) (fd_Project___iter__ K) ["self"] := ⟨He.meth_ok (E.d.fact 285 rfl), E.F_Project___iter__.binds (fun _ _ _ _ _ _ us hl => match us, hl with | [_], _ => rfl)⟩
abbrev f_Project___contains__ (K : PySem.W.Frag) : Addr := He.fAd K ("Project", some "__contains__")
abbrev fd_Project___contains__ (K : PySem.W.Frag) : FuncData := fdOf K ("Project", some "__contains__")
theorem Env.F_Project___contains__ (E : Env K mg) : Fun K "__contains__" "Project.__contains__" s_Project___contains__ (f_Project___contains__ K) (fd_Project___contains__ K) := fun_of E.d 137 rfl
theorem Env.M_Project___contains__ (E : Env K mg) : MOk K (He.ga K "Project") "__contains__" (f_Project___contains__ K) (fd_Project___contains__ K) ["self", "x"] := ⟨He.meth_ok (E.d.fact 286 rfl), E.F_Project___contains__.binds (fun _ _ _ _ _ _ us hl => match us, hl with | [_, _], _ => rfl)⟩
abbrev f_Project___len__ (K : PySem.W.Frag) : Addr := He.fAd K ("Project", some "__len__")
abbrev fd_Project___len__ (K : PySem.W.Frag) : FuncData := fdOf K ("Project", some "__len__")
theorem Env.F_Project___len__ (E : Env K mg) : Fun K "__len__" "Project.__len__" s_Project___len__ (f_Project___len__ K) (fd_Project___len__ K) := fun_of E.d 138 rfl
theorem Env.M_Project___len__ (E : Env K mg) : MOk K (He.ga K "Project") "__len__" (f_Project___len__ K) (fd_Project___len__ K) ["self"] := ⟨He.meth_ok (E.d.fact 287 rfl), E.F_Project___len__.binds (fun _ _ _ _ _ _ us hl => match us, hl with | [_], _ => rfl)⟩
abbrev f_Project___eq__ (K : PySem.W.Frag) : Addr := He.fAd K ("Project", some "__eq__")
abbrev fd_Project___eq__ (K : PySem.W.Frag) : FuncData := fdOf K ("Project", some "__eq__")
theorem Env.F_Project___eq__ (E : Env K mg) : Fun K "__eq__" "Project.__eq__" s_Project___eq__ (f_Project___eq__ K) (fd_Project___eq__ K) := fun_of E.d 139 rfl
theorem Env.M_Project___eq__ (E : Env K mg) : MOk K (He.ga K "Project") "__eq__" (f_Project___eq__ K) (fd_Project___eq__ K) ["self", "other"] := ⟨He.meth_ok (E.d.fact 288 rfl), E.F_Project___eq__.binds (fun _ _ _ _ _ _ us hl => match us, hl with | [_, _], _ => rfl)⟩
abbrev f_Project_lists (K : PySem.W.Frag) : Addr := He.fAd K ("Project", some "lists")
abbrev fd_Project_lists (K : PySem.W.Frag) : FuncData := fdOf K ("Project", some "lists")
theorem Env.F_Project_lists (E : Env K mg) : Fun K "lists" "Project.lists" s_Project_lists (f_Project_lists K) (fd_Project_lists K) := fun_of E.d 140 rfl
theorem Env.M_Project_lists (E : Env K mg) : MOk K (He.ga K "Project") "lists" (f_Project_lists K) (fd_Project_lists K) ["self"] := ⟨He.meth_ok (E.d.fact 289 rfl), E.F_Project_lists.binds (fun _ _ _ _ _ _ us hl => match us, hl with | [_], _ => rfl)⟩
theorem Env.g_Mark (E : Env K mg) : mg "Mark" = some (.ref (He.ga K "Mark")) := E.glo 65 _ rfl
theorem Env.n_Mark_index (E : Env K mg) : NoAttr K (He.ga K "Mark") "index" := He.noat_ok (E.d.fact 121 rfl)
theorem Env.n_Mark_name (E : Env K mg) : NoAttr K (He.ga K "Mark") "name" := He.noat_ok (E.d.fact 122 rfl)
theorem Env.g_FileTree (E : Env K mg) : mg "FileTree" = some (.ref (He.ga K "FileTree")) := E.glo 66 _ rfl
theorem Env.n_FileTree_name (E : Env K mg) : NoAttr K (He.ga K "FileTree") "name" := He.noat_ok (E.d.fact 125 rfl)
theorem Env.n_FileTree_imports (E : Env K mg) : NoAttr K (He.ga K "FileTree") "imports" := He.noat_ok (E.d.fact 126 rfl)
theorem Env.n_FileTree_declared (E : Env K mg) : NoAttr K (He.ga K "FileTree") "declared" := He.noat_ok (E.d.fact 127 rfl)
theorem Env.n_FileTree_document (E : Env K mg) : NoAttr K (He.ga K "FileTree") "document" := He.noat_ok (E.d.fact 128 rfl)
theorem Env.g_Owner (E : Env K mg) : mg "Owner" = some (.ref (He.ga K "Owner")) := E.glo 67 _ rfl
theorem Env.n_Owner_file (E : Env K mg) : NoAttr K (He.ga K "Owner") "file" := He.noat_ok (E.d.fact 133 rfl)
theorem Env.n_Owner_index (E : Env K mg) : NoAttr K (He.ga K "Owner") "index" := He.noat_ok (E.d.fact 134 rfl)
theorem Env.n_Owner_name (E : Env K mg) : NoAttr K (He.ga K "Owner") "name" := He.noat_ok (E.d.fact 135 rfl)
theorem Env.n_Owner_parent (E : Env K mg) : NoAttr K (He.ga K "Owner") "parent" := He.noat_ok (E.d.fact 136 rfl)
theorem Env.n_Owner_body (E : Env K mg) : NoAttr K (He.ga K "Owner") "body" := He.noat_ok (E.d.fact 137 rfl)
theorem Env.g_Stock (E : Env K mg) : mg "Stock" = some (.ref (He.ga K "Stock")) := E.glo 68 _ rfl
theorem Env.n_Stock_file (E : Env K mg) : NoAttr K (He.ga K "Stock") "file" := He.noat_ok (E.d.fact 140 rfl)
theorem Env.n_Stock_index (E : Env K mg) : NoAttr K (He.ga K "Stock") "index" := He.noat_ok (E.d.fact 141 rfl)
theorem Env.n_Stock_name (E : Env K mg) : NoAttr K (He.ga K "Stock") "name" := He.noat_ok (E.d.fact 142 rfl)
theorem Env.n_Stock_columns (E : Env K mg) : NoAttr K (He.ga K "Stock") "columns" := He.noat_ok (E.d.fact 143 rfl)
theorem Env.n_Stock_goods (E : Env K mg) : NoAttr K (He.ga K "Stock") "goods" := He.noat_ok (E.d.fact 144 rfl)
theorem Env.g_Column (E : Env K mg) : mg "Column" = some (.ref (He.ga K "Column")) := E.glo 69 _ rfl
theorem Env.n_Column_index (E : Env K mg) : NoAttr K (He.ga K "Column") "index" := He.noat_ok (E.d.fact 148 rfl)
theorem Env.n_Column_name (E : Env K mg) : NoAttr K (He.ga K "Column") "name" := He.noat_ok (E.d.fact 149 rfl)
theorem Env.n_Column_kind (E : Env K mg) : NoAttr K (He.ga K "Column") "kind" := He.noat_ok (E.d.fact 150 rfl)
theorem Env.g_Body (E : Env K mg) : mg "Body" = some (.ref (He.ga K "Body")) := E.glo 70 _ rfl
theorem Env.n_Body_index (E : Env K mg) : NoAttr K (He.ga K "Body") "index" := He.noat_ok (E.d.fact 153 rfl)
theorem Env.n_Body_declaring (E : Env K mg) : NoAttr K (He.ga K "Body") "declaring" := He.noat_ok (E.d.fact 154 rfl)
theorem Env.n_Body_entries (E : Env K mg) : NoAttr K (He.ga K "Body") "entries" := He.noat_ok (E.d.fact 155 rfl)
theorem Env.n_Body_named (E : Env K mg) : NoAttr K (He.ga K "Body") "named" := He.noat_ok (E.d.fact 156 rfl)
theorem Env.g_Entry (E : Env K mg) : mg "Entry" = some (.ref (He.ga K "Entry")) := E.glo 71 _ rfl
theorem Env.n_Entry_index (E : Env K mg) : NoAttr K (He.ga K "Entry") "index" := He.noat_ok (E.d.fact 159 rfl)
theorem Env.n_Entry_name (E : Env K mg) : NoAttr K (He.ga K "Entry") "name" := He.noat_ok (E.d.fact 160 rfl)
theorem Env.n_Entry_hidden (E : Env K mg) : NoAttr K (He.ga K "Entry") "hidden" := He.noat_ok (E.d.fact 161 rfl)
theorem Env.n_Entry_value (E : Env K mg) : NoAttr K (He.ga K "Entry") "value" := He.noat_ok (E.d.fact 162 rfl)
theorem Env.g_Literal (E : Env K mg) : mg "Literal" = some (.ref (He.ga K "Literal")) := E.glo 72 _ rfl
theorem Env.n_Literal_index (E : Env K mg) : NoAttr K (He.ga K "Literal") "index" := He.noat_ok (E.d.fact 165 rfl)
theorem Env.n_Literal_worth (E : Env K mg) : NoAttr K (He.ga K "Literal") "worth" := He.noat_ok (E.d.fact 166 rfl)
theorem Env.g_Path (E : Env K mg) : mg "Path" = some (.ref (He.ga K "Path")) := E.glo 73 _ rfl
theorem Env.n_Path_index (E : Env K mg) : NoAttr K (He.ga K "Path") "index" := He.noat_ok (E.d.fact 169 rfl)
theorem Env.n_Path_parts (E : Env K mg) : NoAttr K (He.ga K "Path") "parts" := He.noat_ok (E.d.fact 170 rfl)
theorem Env.g_Term (E : Env K mg) : mg "Term" = some (.ref (He.ga K "Term")) := E.glo 74 _ rfl
theorem Env.n_Term_factor (E : Env K mg) : NoAttr K (He.ga K "Term") "factor" := He.noat_ok (E.d.fact 173 rfl)
theorem Env.n_Term_path (E : Env K mg) : NoAttr K (He.ga K "Term") "path" := He.noat_ok (E.d.fact 174 rfl)
theorem Env.g_Sum (E : Env K mg) : mg "Sum" = some (.ref (He.ga K "Sum")) := E.glo 75 _ rfl
theorem Env.n_Sum_index (E : Env K mg) : NoAttr K (He.ga K "Sum") "index" := He.noat_ok (E.d.fact 177 rfl)
theorem Env.n_Sum_words (E : Env K mg) : NoAttr K (He.ga K "Sum") "words" := He.noat_ok (E.d.fact 178 rfl)
theorem Env.n_Sum_terms (E : Env K mg) : NoAttr K (He.ga K "Sum") "terms" := He.noat_ok (E.d.fact 179 rfl)
theorem Env.n_Sum_alone (E : Env K mg) : NoAttr K (He.ga K "Sum") "alone" := He.noat_ok (E.d.fact 180 rfl)
theorem Env.g_Choice (E : Env K mg) : mg "Choice" = some (.ref (He.ga K "Choice")) := E.glo 76 _ rfl
theorem Env.n_Choice_index (E : Env K mg) : NoAttr K (He.ga K "Choice") "index" := He.noat_ok (E.d.fact 184 rfl)
theorem Env.n_Choice_words (E : Env K mg) : NoAttr K (He.ga K "Choice") "words" := He.noat_ok (E.d.fact 185 rfl)
theorem Env.n_Choice_sides (E : Env K mg) : NoAttr K (He.ga K "Choice") "sides" := He.noat_ok (E.d.fact 186 rfl)
theorem Env.n_Choice_path (E : Env K mg) : NoAttr K (He.ga K "Choice") "path" := He.noat_ok (E.d.fact 187 rfl)
theorem Env.n_Choice_literal (E : Env K mg) : NoAttr K (He.ga K "Choice") "literal" := He.noat_ok (E.d.fact 188 rfl)
theorem Env.g_Record (E : Env K mg) : mg "Record" = some (.ref (He.ga K "Record")) := E.glo 77 _ rfl
theorem Env.n_Record_template (E : Env K mg) : NoAttr K (He.ga K "Record") "template" := He.noat_ok (E.d.fact 192 rfl)
theorem Env.n_Record_body (E : Env K mg) : NoAttr K (He.ga K "Record") "body" := He.noat_ok (E.d.fact 193 rfl)
theorem Env.g_Loop (E : Env K mg) : mg "Loop" = some (.ref (He.ga K "Loop")) := E.glo 78 _ rfl
theorem Env.n_Loop_item (E : Env K mg) : NoAttr K (He.ga K "Loop") "item" := He.noat_ok (E.d.fact 196 rfl)
theorem Env.n_Loop_stock (E : Env K mg) : NoAttr K (He.ga K "Loop") "stock" := He.noat_ok (E.d.fact 197 rfl)
theorem Env.n_Loop_where (E : Env K mg) : NoAttr K (He.ga K "Loop") "where" := He.noat_ok (E.d.fact 198 rfl)
theorem Env.n_Loop_template (E : Env K mg) : NoAttr K (He.ga K "Loop") "template" := He.noat_ok (E.d.fact 199 rfl)
theorem Env.n_Loop_body (E : Env K mg) : NoAttr K (He.ga K "Loop") "body" := He.noat_ok (E.d.fact 200 rfl)
theorem Env.g_Where (E : Env K mg) : mg "Where" = some (.ref (He.ga K "Where")) := E.glo 79 _ rfl
theorem Env.n_Where_words (E : Env K mg) : NoAttr K (He.ga K "Where") "words" := He.noat_ok (E.d.fact 203 rfl)
theorem Env.n_Where_left (E : Env K mg) : NoAttr K (He.ga K "Where") "left" := He.noat_ok (E.d.fact 204 rfl)
theorem Env.n_Where_right (E : Env K mg) : NoAttr K (He.ga K "Where") "right" := He.noat_ok (E.d.fact 205 rfl)
theorem Env.g_Sources (E : Env K mg) : mg "Sources" = some (.ref (He.ga K "Sources")) := E.glo 80 _ rfl
theorem Env.n_Sources_trees (E : Env K mg) : NoAttr K (He.ga K "Sources") "trees" := He.noat_ok (E.d.fact 208 rfl)
theorem Env.n_Sources_known (E : Env K mg) : NoAttr K (He.ga K "Sources") "known" := He.noat_ok (E.d.fact 209 rfl)
theorem Env.n_Sources_layers (E : Env K mg) : NoAttr K (He.ga K "Sources") "layers" := He.noat_ok (E.d.fact 210 rfl)
theorem Env.g_Given (E : Env K mg) : mg "Given" = some (.ref (He.ga K "Given")) := E.glo 81 _ rfl
theorem Env.n_Given_entry (E : Env K mg) : NoAttr K (He.ga K "Given") "entry" := He.noat_ok (E.d.fact 221 rfl)
theorem Env.n_Given_base (E : Env K mg) : NoAttr K (He.ga K "Given") "base" := He.noat_ok (E.d.fact 222 rfl)
theorem Env.n_Given_loop (E : Env K mg) : NoAttr K (He.ga K "Given") "loop" := He.noat_ok (E.d.fact 223 rfl)
theorem Env.n_Given_declares (E : Env K mg) : NoAttr K (He.ga K "Given") "declares" := He.noat_ok (E.d.fact 224 rfl)
theorem Env.g_Level (E : Env K mg) : mg "Level" = some (.ref (He.ga K "Level")) := E.glo 82 _ rfl
theorem Env.n_Level_spot (E : Env K mg) : NoAttr K (He.ga K "Level") "spot" := He.noat_ok (E.d.fact 228 rfl)
theorem Env.n_Level_home (E : Env K mg) : NoAttr K (He.ga K "Level") "home" := He.noat_ok (E.d.fact 229 rfl)
theorem Env.n_Level_value (E : Env K mg) : NoAttr K (He.ga K "Level") "value" := He.noat_ok (E.d.fact 230 rfl)
theorem Env.n_Level_loop (E : Env K mg) : NoAttr K (He.ga K "Level") "loop" := He.noat_ok (E.d.fact 231 rfl)
theorem Env.n_Level_stock (E : Env K mg) : NoAttr K (He.ga K "Level") "stock" := He.noat_ok (E.d.fact 232 rfl)
theorem Env.g_BackError (E : Env K mg) : mg "BackError" = some (.ref (He.ga K "BackError")) := E.glo 83 _ rfl
theorem Env.g_BadFiles (E : Env K mg) : mg "BadFiles" = some (.ref (He.ga K "BadFiles")) := E.glo 84 _ rfl
theorem Env.g_SourceError (E : Env K mg) : mg "SourceError" = some (.ref (He.ga K "SourceError")) := E.glo 85 _ rfl
theorem Env.g_NoFile (E : Env K mg) : mg "NoFile" = some (.ref (He.ga K "NoFile")) := E.glo 86 _ rfl
theorem Env.g_Parser (E : Env K mg) : mg "Parser" = some (.ref (He.ga K "Parser")) := E.glo 87 _ rfl
theorem Env.n_Parser_file (E : Env K mg) : NoAttr K (He.ga K "Parser") "file" := He.noat_ok (E.d.fact 235 rfl)
theorem Env.n_Parser_found (E : Env K mg) : NoAttr K (He.ga K "Parser") "found" := He.noat_ok (E.d.fact 236 rfl)
theorem Env.n_Parser_end_word (E : Env K mg) : NoAttr K (He.ga K "Parser") "end_word" := He.noat_ok (E.d.fact 237 rfl)
theorem Env.n_Parser_at (E : Env K mg) : NoAttr K (He.ga K "Parser") "at" := He.noat_ok (E.d.fact 238 rfl)
theorem Env.g_Kinds (E : Env K mg) : mg "Kinds" = some (.ref (He.ga K "Kinds")) := E.glo 88 _ rfl
theorem Env.n_Kinds_sources (E : Env K mg) : NoAttr K (He.ga K "Kinds") "sources" := He.noat_ok (E.d.fact 267 rfl)
theorem Env.n_Kinds_known (E : Env K mg) : NoAttr K (He.ga K "Kinds") "known" := He.noat_ok (E.d.fact 268 rfl)
theorem Env.n_Kinds_plain (E : Env K mg) : NoAttr K (He.ga K "Kinds") "plain" := He.noat_ok (E.d.fact 269 rfl)
theorem Env.g_Project (E : Env K mg) : mg "Project" = some (.ref (He.ga K "Project")) := E.glo 89 _ rfl
theorem Env.n_Project__files (E : Env K mg) : NoAttr K (He.ga K "Project") "_files" := He.noat_ok (E.d.fact 278 rfl)
theorem Env.n_Project__texts (E : Env K mg) : NoAttr K (He.ga K "Project") "_texts" := He.noat_ok (E.d.fact 279 rfl)
theorem Env.n_Project_sources (E : Env K mg) : NoAttr K (He.ga K "Project") "sources" := He.noat_ok (E.d.fact 280 rfl)
theorem Env.n_Project__serials (E : Env K mg) : NoAttr K (He.ga K "Project") "_serials" := He.noat_ok (E.d.fact 281 rfl)
theorem Env.n_Project__nexts (E : Env K mg) : NoAttr K (He.ga K "Project") "_nexts" := He.noat_ok (E.d.fact 282 rfl)
theorem Env.u_TypeError (E : Env K mg) : mg "TypeError" = none := E.free 90 _ rfl
theorem Env.u_ValueError (E : Env K mg) : mg "ValueError" = none := E.free 91 _ rfl
theorem Env.u_abs (E : Env K mg) : mg "abs" = none := E.free 92 _ rfl
theorem Env.u_all (E : Env K mg) : mg "all" = none := E.free 93 _ rfl
theorem Env.u_any (E : Env K mg) : mg "any" = none := E.free 94 _ rfl
theorem Env.u_dict (E : Env K mg) : mg "dict" = none := E.free 95 _ rfl
theorem Env.u_enumerate (E : Env K mg) : mg "enumerate" = none := E.free 96 _ rfl
theorem Env.u_int (E : Env K mg) : mg "int" = none := E.free 97 _ rfl
theorem Env.u_isinstance (E : Env K mg) : mg "isinstance" = none := E.free 98 _ rfl
theorem Env.u_len (E : Env K mg) : mg "len" = none := E.free 99 _ rfl
theorem Env.u_list (E : Env K mg) : mg "list" = none := E.free 100 _ rfl
theorem Env.u_max (E : Env K mg) : mg "max" = none := E.free 101 _ rfl
theorem Env.u_min (E : Env K mg) : mg "min" = none := E.free 102 _ rfl
theorem Env.u_property (E : Env K mg) : mg "property" = none := E.free 103 _ rfl
theorem Env.u_range (E : Env K mg) : mg "range" = none := E.free 104 _ rfl
theorem Env.u_set (E : Env K mg) : mg "set" = none := E.free 105 _ rfl
theorem Env.u_sorted (E : Env K mg) : mg "sorted" = none := E.free 106 _ rfl
theorem Env.u_str (E : Env K mg) : mg "str" = none := E.free 107 _ rfl
theorem Env.u_tuple (E : Env K mg) : mg "tuple" = none := E.free 108 _ rfl
theorem Env.u_zip (E : Env K mg) : mg "zip" = none := E.free 109 _ rfl
theorem Env.c_LETTERS (E : Env K mg) : ∃ t, mg "LETTERS" = some (.str "abcdefghijklmnopqrstuvwxyz" t) := E.str 111 _ _ rfl
theorem Env.c_DIGITS (E : Env K mg) : ∃ t, mg "DIGITS" = some (.str "0123456789" t) := E.str 112 _ _ rfl
theorem Env.c_SIGNS (E : Env K mg) : ∃ t, mg "SIGNS" = some (.str "{}[]():.,=+-*" t) := E.str 113 _ _ rfl
theorem Env.c_QUOTE (E : Env K mg) : ∃ t, mg "QUOTE" = some (.str "\"" t) := E.str 114 _ _ rfl
theorem Env.c_LONGEST_NAME (E : Env K mg) : ∃ t, mg "LONGEST_NAME" = some (.int (12) t) := E.int 115 _ _ rfl
theorem Env.c_LONGEST_STRING (E : Env K mg) : ∃ t, mg "LONGEST_STRING" = some (.int (60) t) := E.int 116 _ _ rfl
theorem Env.c_AT_ONCE (E : Env K mg) : ∃ t, mg "AT_ONCE" = some (.int (64) t) := E.int 117 _ _ rfl
theorem Env.c_UNIT (E : Env K mg) : ∃ t, mg "UNIT" = some (.int (10000000000000000000000000000000000000000000000000000000000000000) t) := E.int 118 _ _ rfl
theorem Env.c_MOST_FILES (E : Env K mg) : ∃ t, mg "MOST_FILES" = some (.int (6) t) := E.int 119 _ _ rfl
end
end V5

set_option maxHeartbeats 0
/-! The head of the row: one run of the top, and what it leaves, by a Hook. -/
namespace V5
open PySem PySem.W PySem.Calls PyProof.Rows
abbrev R : OpenRow := OpenLaw.row PySem.Challenge.rw_sourceback_k05_imports_and_names_that_st
abbrev qv : Program := view R.prog [118]
def n1 : List PySem.Str := ["_wall", "__name__", "Mark", "FileTree", "Owner", "Stock", "Column", "Body", "Entry", "Literal", "Path", "Term", "Sum",
 "Choice", "Record", "Loop", "Where", "literal_kind", "paths_of", "right_paths", "Sources", "known_names", "Given",
 "givens", "body_within", "reads_item", "item_kind", "Level"]
def n2 : List PySem.Str := ["defined", "says", "patterns", "levels_of", "levels_from",
 "level_at", "first_expressed", "is_expression", "reads_at", "circle_faults", "possible_reads", "can_be_told",
 "BackError", "BadFiles", "SourceError", "NoFile", "field_faults", "given_faults", "given_faults_fields",
 "fits", "leads", "where_faults", "where_faults_fields", "WORDS", "LETTERS", "DIGITS", "SIGNS"]
def n3 : List PySem.Str := ["QUOTE", "LONGEST_NAME",
 "LONGEST_STRING", "is_name", "is_text", "is_file", "is_inner", "tokens", "next_start", "line_end", "token_end",
 "run_end", "string_end", "AT_ONCE", "UNIT", "number_in", "tree_of", "Parser", "Kinds", "kind_faults", "item_faults",
 "given_faults_kinds", "simple_faults", "where_faults_kinds"]
def n4 : List PySem.Str := ["import_faults", "repeated", "twice_faults",
 "brought_twice", "bodies_in", "hiding_loops", "name_faults", "template_marks", "ring_faults", "is_in_ring", "checked",
 "refuse", "all_layers", "MOST_FILES", "Project", "are_files", "item_counts", "_law_box", "_law_take", "_law_of",
 "_law_put", "_law_error", "_law_files", "_law_due"]
def names : List PySem.Str := n1 ++ n2 ++ n3 ++ n4
def tf : List He.Defn := [("law", none)]
/-! ### what is looked at: all that stands at most so many steps behind the globals, by a mask -/
def pushM (acc : Nat × List Addr) (a : Addr) : Nat × List Addr := match Nat.testBit acc.1 a with
  | true => acc
  | false => (acc.1 ||| (1 <<< a), a :: acc.2)
def lev (g : Addr → Option Obj) (m : Nat) (xs : List Addr) : Nat × List Addr := xs.foldl (fun acc a => match g a with
  | some o => (He.refsD o).foldl pushM acc
  | none => acc) (m, [])
def asM (g : Addr → Option Obj) : Nat → Nat → List Addr → List Addr → List Addr
  | 0, _, _, all => all
  | n + 1, m, fr, all => match lev g m fr with
    | (m', fr') => asM g n m' fr' (all ++ fr')
def kM (g : Addr → Option Obj) : PySem.W.Frag := He.frT g (asM g 5 (1 <<< mainGlobals) [mainGlobals] [mainGlobals])
/-- the state behind the top -/
noncomputable def fin (w : World) (os : OsState) : Option PySem.W.SharedT := HandSHeadRun.endF (HandSHeadRun.stepQ (HandSHeadRun.denQ HandSHeadRun.tabQ) R.prog w) 20000 R.prog w os
noncomputable def o0 (w : World) (s : PySem.W.SharedT) := (HandSHeadRun.looksF R.prog (boot_heap w.params) s.abs, HandSHeadRun.seenQ qv names (importedModules R.prog.main.body) (fun s => xlAt qv [] s && recOk R.toRowW.records s) s.abs)
def oA (K : PySem.W.Frag) (g : Addr → Option Obj) : Bool := ((fa0 ++ fa1 ++ fa2 ++ fa3).all fun f => f.ok K) && He.tabsB g tf K
def oB (K : PySem.W.Frag) : Bool := ((fa4 ++ fa5 ++ fa6 ++ fa7 ++ fa8).all fun f => f.ok K) && ex K
def oF (ds : List He.DefD) (K : PySem.W.Frag) : Bool × List He.FnW := (ds.all fun d => d.ok K, ds.map fun d => He.fnW K d.at_)
theorem run0 (w : World) (os : OsState) : (fin w os).map (o0 w) = some (true, openGood qv names) := by
  kernel_rfl
theorem runA (w : World) (os : OsState) : (fin w os).map (fun s => oA (kM (HandSHeadRun.getT s)) (HandSHeadRun.getT s)) = some true := by
  kernel_rfl
theorem runB (w : World) (os : OsState) : (fin w os).map (fun s => oB (kM (HandSHeadRun.getT s))) = some true := by
  kernel_rfl
theorem runF0 (w : World) (os : OsState) : (fin w os).map (fun s => oF (fn0 ++ fn1) (kM (HandSHeadRun.getT s))) = some (true, (fn0 ++ fn1).map He.DefD.val) := by
  kernel_rfl
theorem runF1 (w : World) (os : OsState) : (fin w os).map (fun s => oF (fn2 ++ fn3) (kM (HandSHeadRun.getT s))) = some (true, (fn2 ++ fn3).map He.DefD.val) := by
  kernel_rfl
end V5

/-! The four runs put together: one Hook. -/
namespace V5
open PySem PySem.W PySem.Calls PyProof.Rows
theorem opt_at {α β : Type} {x : Option α} {f : α → β} {b : β} (h : x.map f = some b) : ∃ a, x = some a ∧ f a = b := Option.map_eq_some_iff.mp h
abbrev LookT : Type := Bool × Bool × (Bool × List He.FnW) × (Bool × List He.FnW)
def lookG (g : Addr → Option Obj) : LookT := (oA (kM g) g, oB (kM g), oF (fn0 ++ fn1) (kM g), oF (fn2 ++ fn3) (kM g))
def lookV : LookT := (true, true, (true, (fn0 ++ fn1).map He.DefD.val), (true, (fn2 ++ fn3).map He.DefD.val))
def ob (s : PySem.W.SharedT) : LookT := lookG (HandSHeadRun.getT s)
theorem tabs_all {K : PySem.W.Frag} {g : Addr → Option Obj} (h : He.tabsB g tf K = true) {p : He.Defn} (hp : p ∈ tf) :
    PySem.W.codeHdIn K (He.cT K p).1 (He.cT K p).2 = true ∧ ∃ o, g (He.cT K p).2 = some o ∧ He.emptyTab o = true := by
  have h2 := List.all_eq_true.mp h p hp
  obtain ⟨a, b⟩ := He.ba h2
  refine ⟨a, ?_⟩
  cases e : g (He.cT K p).2 with
  | some o =>
    rw [e] at b
    exact ⟨o, rfl, b⟩
  | none =>
    rw [e] at b
    cases b
theorem oF_app {K : PySem.W.Frag} {xs ys : List He.DefD} (h1 : oF xs K = (true, xs.map He.DefD.val)) (h2 : oF ys K = (true, ys.map He.DefD.val)) : oF (xs ++ ys) K = (true, (xs ++ ys).map He.DefD.val) := by
  have c1 : (xs.all fun d => d.ok K) = true := congrArg Prod.fst h1
  have c2 : (xs.map fun d => He.fnW K d.at_) = xs.map He.DefD.val := congrArg Prod.snd h1
  have d1 : (ys.all fun d => d.ok K) = true := congrArg Prod.fst h2
  have d2 : (ys.map fun d => He.fnW K d.at_) = ys.map He.DefD.val := congrArg Prod.snd h2
  unfold oF
  rw [List.all_append, c1, d1, List.map_append, c2, d2, List.map_append]
  rfl
theorem says_of {w : World} {h : Heap} (e : lookG h.get? = lookV) : He.SaysX fa fn [] tf ex w h (kM h.get?) := by
  unfold lookG lookV at e
  generalize hK : kM h.get? = K at e ⊢
  have hK := hK.symm
  have e1 : oA K h.get? = true := congrArg (fun z : LookT => z.1) e
  have e2 : oB K = true := congrArg (fun z : LookT => z.2.1) e
  have e3 : oF (fn0 ++ fn1) K = (true, (fn0 ++ fn1).map He.DefD.val) := congrArg (fun z : LookT => z.2.2.1) e
  have e4 : oF (fn2 ++ fn3) K = (true, (fn2 ++ fn3).map He.DefD.val) := congrArg (fun z : LookT => z.2.2.2) e
  obtain ⟨a1, a2⟩ := He.ba e1
  obtain ⟨b1, b2⟩ := He.ba e2
  have allA : (fa.all fun f => f.ok K) = true := by
    rw [show fa = (fa0 ++ fa1 ++ fa2 ++ fa3) ++ (fa4 ++ fa5 ++ fa6 ++ fa7 ++ fa8) from by unfold fa; simp only [List.append_assoc], List.all_append, a1, b1]
    rfl
  have e5 : oF fn K = (true, fn.map He.DefD.val) := by
    have z := oF_app e3 e4
    rw [show (fn0 ++ fn1) ++ (fn2 ++ fn3) = fn from by unfold fn; simp only [List.append_assoc]] at z
    exact z
  have allN : (fn.all fun d => d.ok K) = true := congrArg Prod.fst e5
  have mapN : (fn.map fun d => He.fnW K d.at_) = fn.map He.DefD.val := congrArg Prod.snd e5
  refine ⟨?_, b2, fun p hp => (tabs_all a2 hp).1, fun p hp => ?_, fun p hp => ?_⟩
  · show (((fa.all fun f => f.ok K) && fn.all fun d => d.ok K, fn.map fun d => He.fnW K d.at_), ([] : List _)) = ((true, fn.map He.DefD.val), [])
    rw [allA, allN, mapN]
    rfl
  · obtain ⟨o, q, z⟩ := (tabs_all a2 hp).2
    rw [hK] at q ⊢
    exact He.frT_none q z
  · obtain ⟨o, q, z⟩ := (tabs_all a2 hp).2
    rw [q, He.emptyTab_eq z]
def hk : PySem.W.Hook where
  α := LookT
  obs := fun s => lookG s.heap.get?
  val := fun _ => lookV
  says := fun w h => ∃ K : PySem.W.Frag, K.In h ∧ He.SaysX fa fn [] tf ex w h K
  of := fun w s e => ⟨_, He.frT_in, says_of e⟩
  keeps := fun w h h2 c k => by
    obtain ⟨K, inn, x⟩ := c
    exact ⟨K, inn.keeps k, { x with empty := fun p hp => k _ _ (x.empty p hp) }⟩
theorem ob_eq (s : PySem.W.SharedT) : ob s = hk.obs s.abs := by
  show lookG (HandSHeadRun.getT s) = lookG s.abs.heap.get?
  rw [show HandSHeadRun.getT s = s.abs.heap.get? from funext (HandSHeadRun.getT_eq s)]
theorem run (w : World) : HandSHeadRun.RunEq R qv hk ob 20000 names w := by
  intro os
  obtain ⟨s, es, e0⟩ := opt_at (run0 w os)
  obtain ⟨s1, es1, e1⟩ := opt_at (runA w os)
  obtain ⟨s2, es2, e2⟩ := opt_at (runB w os)
  obtain ⟨s3, es3, e3⟩ := opt_at (runF0 w os)
  obtain ⟨s4, es4, e4⟩ := opt_at (runF1 w os)
  rw [es] at es1 es2 es3 es4
  cases es1
  cases es2
  cases es3
  cases es4
  show (fin w os).map _ = _
  rw [es]
  show some (_, _, lookG _) = _
  unfold lookG
  rw [e1, e2, e3, e4]
  have l0 := congrArg Prod.fst e0
  have l1 := congrArg Prod.snd e0
  exact congrArg some (Prod.ext l0 (Prod.ext l1 rfl))
end V5

namespace K2
/-! The tokens of a text, by its signs' numbers. -/

def span (p : Nat → Bool) (l : List Nat) : Nat := (l.takeWhile p).length
theorem span_le (p : Nat → Bool) (l : List Nat) : span p l ≤ l.length := (List.takeWhile_sublist p).length_le
theorem span_nil (p : Nat → Bool) : span p [] = 0 := rfl
theorem span_pos {p : Nat → Bool} {c : Nat} {r : List Nat} (h : p c = true) : span p (c :: r) = span p r + 1 := by
  unfold span
  rw [List.takeWhile_cons, if_pos h]
  rfl
theorem span_neg {p : Nat → Bool} {c : Nat} {r : List Nat} (h : p c = false) : span p (c :: r) = 0 := by
  unfold span
  rw [List.takeWhile_cons, if_neg (by rw [h]; exact Bool.false_ne_true)]
  rfl
theorem span_get {p : Nat → Bool} : ∀ {l : List Nat} {i : Nat} {c : Nat}, l[i]? = some c → i < span p l → p c = true
  | [], _, _, h, _ => by simp at h
  | x :: r, i, c, h, lt => by
    cases hx : p x with
    | false =>
      rw [span_neg hx] at lt
      omega
    | true =>
      rw [span_pos hx] at lt
      cases i with
      | zero =>
        cases h
        exact hx
      | succ i => exact span_get (l := r) h (by omega)
theorem span_end {p : Nat → Bool} : ∀ {l : List Nat} {c : Nat}, l[span p l]? = some c → p c = false
  | [], _, h => by simp at h
  | x :: r, c, h => by
    cases hx : p x with
    | false =>
      rw [span_neg hx] at h
      cases h
      exact hx
    | true =>
      rw [span_pos hx] at h
      exact span_end (l := r) h
theorem span_congr {p q : Nat → Bool} : ∀ {l : List Nat}, (∀ c ∈ l, p c = q c) → span p l = span q l
  | [], _ => rfl
  | x :: r, h => by
    have hx := h x List.mem_cons_self
    have hr := span_congr (l := r) fun c hc => h c (List.mem_cons_of_mem _ hc)
    cases e : p x with
    | false => rw [span_neg e, span_neg (hx ▸ e)]
    | true => rw [span_pos e, span_pos (hx ▸ e), hr]
/-- what runs on behind a part of its own kind -/
theorem span_app {p : Nat → Bool} : ∀ {a b : List Nat}, (∀ c ∈ a, p c = true) → span p (a ++ b) = a.length + span p b
  | [], b, _ => by simp
  | x :: r, b, h => by
    rw [List.cons_append, span_pos (h x List.mem_cons_self), span_app fun c hc => h c (List.mem_cons_of_mem _ hc), List.length_cons]
    omega

def isLet (c : Nat) : Bool := decide (97 ≤ c) && decide (c ≤ 122)
def isDig (c : Nat) : Bool := decide (48 ≤ c) && decide (c ≤ 57)
/-- { } [ ] ( ) : . , = + - * -/
def signs : List Nat := [123, 125, 91, 93, 40, 41, 58, 46, 44, 61, 43, 45, 42]
def isSign (c : Nat) : Bool := signs.contains c
def isIn (c : Nat) : Bool := decide (32 ≤ c) && decide (c ≤ 126) && decide (c ≠ 34) && decide (c ≠ 92)
def isGap (c : Nat) : Bool := decide (c = 32) || decide (c = 10)
def noFeed (c : Nat) : Bool := decide (c ≠ 10)

/-- how many signs the gap ahead has -/
def skip (l : List Nat) : Nat :=
  match l with
  | [] => 0
  | c :: r => if isGap c = true then 1 + skip r else if c = 35 then 1 + span noFeed r + skip (r.drop (span noFeed r)) else 0
termination_by l.length
decreasing_by
  all_goals simp only [List.length_cons, List.length_drop]; omega

theorem skip_nil : skip [] = 0 := by rw [skip]
theorem skip_gap {c : Nat} {r : List Nat} (h : isGap c = true) : skip (c :: r) = 1 + skip r := by rw [skip, if_pos h]
theorem skip_hash (r : List Nat) : skip (35 :: r) = 1 + span noFeed r + skip (r.drop (span noFeed r)) := by
  rw [skip, if_neg (by decide), if_pos rfl]
theorem skip_none {c : Nat} {r : List Nat} (h : isGap c = false) (n : c ≠ 35) : skip (c :: r) = 0 := by
  rw [skip, if_neg (by rw [h]; exact Bool.false_ne_true), if_neg n]
theorem skip_le : ∀ (n : Nat) (l : List Nat), l.length ≤ n → skip l ≤ l.length
  | _, [], _ => by rw [skip_nil]; exact Nat.le_refl 0
  | 0, c :: r, h => by simp at h
  | n + 1, c :: r, h => by
    have hr : r.length ≤ n := by simpa using h
    rw [List.length_cons]
    by_cases g : isGap c = true
    · rw [skip_gap g]
      have := skip_le n r hr
      omega
    · by_cases e : c = 35
      · subst e
        rw [skip_hash]
        have h1 := span_le noFeed r
        have h2 := skip_le n (r.drop (span noFeed r)) (by rw [List.length_drop]; omega)
        rw [List.length_drop] at h2
        omega
      · rw [skip_none (Bool.eq_false_iff.mpr g) e]
        exact Nat.zero_le _
theorem skip_len (l : List Nat) : skip l ≤ l.length := skip_le l.length l (Nat.le_refl _)

/-- how many signs the token has that comes next; 0 if there is none -/
def tokL : List Nat → Nat
  | [] => 0
  | c :: r => if isSign c = true then 1 else if isLet c = true then span isLet (c :: r) else if isDig c = true then (if c = 48 ∧ 1 < span isDig (c :: r) then 0 else span isDig (c :: r))
    else if c = 34 then (if r[span isIn r]? = some 34 ∧ span isIn r ≤ 60 then span isIn r + 2 else 0) else 0
theorem tokL_cons (c : Nat) (r : List Nat) : tokL (c :: r) = if isSign c = true then 1 else if isLet c = true then span isLet (c :: r) else if isDig c = true then (if c = 48 ∧ 1 < span isDig (c :: r) then 0 else span isDig (c :: r))
    else if c = 34 then (if r[span isIn r]? = some 34 ∧ span isIn r ≤ 60 then span isIn r + 2 else 0) else 0 := rfl
theorem tokL_le : ∀ (l : List Nat), tokL l ≤ l.length
  | [] => Nat.le_refl 0
  | c :: r => by
    have h1 := span_le isLet (c :: r)
    have h2 := span_le isDig (c :: r)
    rw [tokL_cons]
    split
    · simp
    · split
      · exact h1
      · split
        · split
          · exact Nat.zero_le _
          · exact h2
        · split
          · split
            · next h =>
              have := (List.getElem?_eq_some_iff.mp h.1).1
              rw [List.length_cons]
              omega
            · exact Nat.zero_le _
          · exact Nat.zero_le _

/-- all tokens, with their indexes; it ends where none begins -/
def scan (pos : Nat) (l : List Nat) : List (Nat × List Nat) :=
  if h : tokL (l.drop (skip l)) = 0 then [] else
    (pos + skip l, (l.drop (skip l)).take (tokL (l.drop (skip l)))) :: scan (pos + skip l + tokL (l.drop (skip l))) ((l.drop (skip l)).drop (tokL (l.drop (skip l))))
termination_by l.length
decreasing_by
  have h1 := tokL_le (l.drop (skip l))
  simp only [List.length_drop] at h1 ⊢
  omega
/-- nothing stands in the text that is no token and no gap -/
def clean (l : List Nat) : Bool :=
  if h : tokL (l.drop (skip l)) = 0 then decide (skip l = l.length) else clean ((l.drop (skip l)).drop (tokL (l.drop (skip l))))
termination_by l.length
decreasing_by
  have h1 := tokL_le (l.drop (skip l))
  simp only [List.length_drop] at h1 ⊢
  omega

theorem scan_end {pos : Nat} {l : List Nat} (h : tokL (l.drop (skip l)) = 0) : scan pos l = [] := by rw [scan, dif_pos h]
theorem scan_tok {pos : Nat} {l : List Nat} (h : tokL (l.drop (skip l)) ≠ 0) : scan pos l =
    (pos + skip l, (l.drop (skip l)).take (tokL (l.drop (skip l)))) :: scan (pos + skip l + tokL (l.drop (skip l))) ((l.drop (skip l)).drop (tokL (l.drop (skip l)))) := by
  rw [scan, dif_neg h]
theorem clean_end {l : List Nat} (h : tokL (l.drop (skip l)) = 0) : clean l = decide (skip l = l.length) := by rw [clean, dif_pos h]
theorem clean_tok {l : List Nat} (h : tokL (l.drop (skip l)) ≠ 0) : clean l = clean ((l.drop (skip l)).drop (tokL (l.drop (skip l)))) := by rw [clean, dif_neg h]

theorem scan_at {pos : Nat} {l m : List Nat} (e : l.drop (skip l) = m) (h : tokL m ≠ 0) : scan pos l = (pos + skip l, m.take (tokL m)) :: scan (pos + skip l + tokL m) (m.drop (tokL m)) := by
  subst e
  exact scan_tok h
theorem clean_at {l m : List Nat} (e : l.drop (skip l) = m) (h : tokL m ≠ 0) : clean l = clean (m.drop (tokL m)) := by
  subst e
  exact clean_tok h
/-- a gap ahead changes the indexes alone -/
theorem scan_shift {pos k : Nat} {l : List Nat} (h : skip l = k + skip (l.drop k)) : scan pos l = scan (pos + k) (l.drop k) := by
  obtain ⟨m, e1⟩ : ∃ m, l.drop (skip l) = m := ⟨_, rfl⟩
  have e2 : (l.drop k).drop (skip (l.drop k)) = m := by rw [List.drop_drop, ← h, e1]
  by_cases c : tokL m = 0
  · rw [scan_end (by rw [e1]; exact c), scan_end (by rw [e2]; exact c)]
  · have e : pos + (k + skip (l.drop k)) = pos + k + skip (l.drop k) := by omega
    rw [scan_at e1 c, scan_at e2 c, h, e]
theorem clean_shift {k : Nat} {l : List Nat} (h : skip l = k + skip (l.drop k)) (hk : k ≤ l.length) : clean l = clean (l.drop k) := by
  obtain ⟨m, e1⟩ : ∃ m, l.drop (skip l) = m := ⟨_, rfl⟩
  have e2 : (l.drop k).drop (skip (l.drop k)) = m := by rw [List.drop_drop, ← h, e1]
  by_cases c : tokL m = 0
  · rw [clean_end (by rw [e1]; exact c), clean_end (by rw [e2]; exact c), h, List.length_drop]
    by_cases z : k + skip (l.drop k) = l.length
    · rw [decide_eq_true z, decide_eq_true (by omega)]
    · rw [decide_eq_false z]
      exact (decide_eq_false (by omega)).symm
  · rw [clean_at e1 c, clean_at e2 c]

/-- at a sign that is none of a gap the tokens begin -/
theorem scan_here {pos c : Nat} {r : List Nat} (h : isGap c = false) (n : c ≠ 35) (t : tokL (c :: r) ≠ 0) :
    scan pos (c :: r) = (pos, (c :: r).take (tokL (c :: r))) :: scan (pos + tokL (c :: r)) ((c :: r).drop (tokL (c :: r))) := by
  have e := skip_none (r := r) h n
  have z := scan_at (pos := pos) (l := c :: r) (m := c :: r) (by rw [e]; rfl) t
  rw [e, Nat.add_zero] at z
  exact z
theorem clean_here {c : Nat} {r : List Nat} (h : isGap c = false) (n : c ≠ 35) (t : tokL (c :: r) ≠ 0) : clean (c :: r) = clean ((c :: r).drop (tokL (c :: r))) := by
  have e := skip_none (r := r) h n
  exact clean_at (l := c :: r) (m := c :: r) (by rw [e]; rfl) t
theorem clean_tokL {c : Nat} {r : List Nat} (h : isGap c = false) (n : c ≠ 35) (k : clean (c :: r) = true) : tokL (c :: r) ≠ 0 := by
  intro z
  have e := skip_none (r := r) h n
  rw [clean_end (l := c :: r) (by rw [e]; exact z), e] at k
  have := of_decide_eq_true k
  simp at this
theorem scan_nil (pos : Nat) : scan pos [] = [] := scan_end (by rw [skip_nil]; rfl)

theorem tokL_ne {l : List Nat} (h : tokL l ≠ 0) : l ≠ [] := by
  rintro rfl
  exact h rfl
end K2

namespace K2
open PySem PySem.Spec PyProof.Rows L2
abbrev sInner : Stmt := V5.s_is_inner
abbrev sTokens : Stmt := V5.s_tokens
abbrev sNext : Stmt := V5.s_next_start
abbrev sLine : Stmt := V5.s_line_end
abbrev sEnd : Stmt := V5.s_token_end
abbrev sRun : Stmt := V5.s_run_end
abbrev sStrEnd : Stmt := V5.s_string_end
abbrev sBox : Stmt := V5.s__law_box
abbrev sTake : Stmt := V5.s__law_take
abbrev sOf : Stmt := V5.s__law_of

theorem scTake : FnScope ["_law_box_here", "_law_many", "_law_digit", "_law_mixed"] ["_law_box_here", "_law_many"]
    (defScope sTake) := ⟨rfl, rfl, rfl, by decide +kernel, rfl, by decide +kernel, by decide +kernel⟩

/-- a box of digits at b: what is left of the cell, the mixed number, the count of draws -/
def Box (c : Int) (H : Hp) (b : Addr) : Prop :=
  ∃ o m k : Int, H b = some (.lst [.int o, .int m, .int k]) ∧ (0 ≤ o ∧ o < 2 ^ 1100) ∧ (0 ≤ m ∧ m < 2 ^ 61) ∧ (0 ≤ k ∧ k ≤ c)
/-- all but b stands as before -/
def Kept (b : Addr) (H H' : Hp) : Prop := ∀ a o, H a = some o → a ≠ b → H' a = some o

theorem Kept.refl (b : Addr) (H : Hp) : Kept b H H := fun _ _ e _ => e
theorem Kept.trans {b : Addr} {H H' H'' : Hp} (x : Kept b H H') (y : Kept b H' H'') : Kept b H H'' :=
  fun a o e n => y a o (x a o e n) n
theorem Kept.upd {b : Addr} {H H' : Hp} {o : HO} (x : Kept b H H') : Kept b H (upd H' b o) := fun a u e n => by
  rw [upd_ne n]
  exact x a u e n

theorem small64 {x : Int} (h0 : 0 ≤ x) (h1 : x < 2 ^ 64) : -(2 ^ 64) < x ∧ x < 2 ^ 64 := ⟨by omega, h1⟩

theorem bits_le {x : Int} {n : Nat} (h : x.natAbs < 2 ^ n) (hn : 0 < n) : x.natAbs.log2 < n := PySem.Flt.log2_lt_of hn h

theorem pass_int {Q : V → Hp → Prop} {z : Int} {H : Hp} (h : ∀ x, x = z → Q (.int x) H) : Q (.int z) H := h z rfl

def spTake : Sp := fun vs H Q _ => ∃ (b : Addr) (n c : Int), vs = [.ref b, .int n] ∧ Box c H b ∧ 1 ≤ n ∧ n ≤ 2 ^ 20 ∧
  c ≤ 100000 ∧ ∀ H' r, Kept b H H' → Box (c + 1) H' b → 0 ≤ r → r < n → Q (.int r) H'

section
variable {P : Program} {w : World} {K : PySem.W.Frag} {mg : Str → Option Value} {base : Heap}

theorem ok_take {f : Addr} {fd : FuncData} (F : Fun K "_law_take" "_law_take" sTake f fd) :
    FnOk P w K mg base CX0 1 f fd ["_law_box_here", "_law_many"] spTake := by
  refine F.ok scTake (fun vs H Q E h => ?_) (fun cdv A outer s H vs Q E hr h => ?_)
  · obtain ⟨b, n, c, rfl, _⟩ := h
    rfl
  · obtain ⟨b, n, c, rfl, ⟨o, m, k, hb, ho, hm, hk⟩, n1, n2, hc, q⟩ := h
    refine ⟨_, pss_cons (ps_if (pt_cmpR op_gt (pe_ix ix_list (pv 0) pe_int (fun _ _ => rfl)) pe_int (nomark _))
        (pss_cons (ps_set (i := 2) scTake.nd rfl (.inl rfl)
            (pe_op op_mod (pe_ix ix_list (pv 0) pe_int (fun _ _ => rfl)) (pv 1)))
          (pss_cons (ps_asg (pe_op op_fdivW (pe_ix ix_list (pv 0) pe_int (fun _ _ => rfl)) (pv 1))
              (pg_sub (pv 0) pe_int set_list))
            (pss_one (ps_ret (pv 2))))) pss_nil)
      (pss_cons (ps_asg (pe_op op_add (pe_ix ix_list (pv 0) pe_int (fun _ _ => rfl)) pe_int)
          (pg_sub (pv 0) pe_int set_list))
      (pss_cons (ps_set (i := 3) scTake.nd rfl (.inl rfl)
          (pe_op op_mod (pe_op op_mul (pe_op op_add (pe_op op_add (pe_ix ix_list (pv 0) pe_int (fun _ _ => rfl))
              (pe_op op_mul (pe_op op_mul pe_int (pe_ix ix_list (pv 0) pe_int (fun _ _ => rfl)))
                (pe_ix ix_list (pv 0) pe_int (fun _ _ => rfl)))) pe_int) pe_int) pe_int))
      (pss_cons (ps_set (i := 3) scTake.nd rfl (.inl rfl)
          (pe_op op_mod (pe_op op_mul (pv 3) (pe_op op_add (pe_op op_mod (pv 3) pe_int)
            (pe_op op_mul pe_int (pe_ix ix_list (pv 0) pe_int (fun _ _ => rfl))))) pe_int))
      (pss_one (ps_ret (pe_op op_mod (pe_op op_add (pe_op op_fdiv (pv 3) pe_int) (pe_op op_fdiv (pv 3) pe_int))
        (pv 1))))))), ?_⟩
    have hB : SqL K H b [.int o, .int m, .int k] := SqL.of hb
    -- if box[0] > 0
    refine ⟨.ref b, rfl, b, _, 0, .int o, rfl, rfl, hB, atI_nat (j := 0) rfl, o, 0, rfl, rfl, _, rfl, ?_⟩
    refine ite2 (fun e => ?_) (fun e => ?_)
    · have ho0 : 0 < o := of_decide_eq_true e
      have hn0 : 0 < n := by omega
      refine ⟨.ref b, rfl, b, _, 0, .int o, rfl, rfl, hB, atI_nat (j := 0) rfl, .int n, rfl, o, n, rfl, rfl, hn0, ?_⟩
      -- box[0] = box[0] // many
      refine ⟨.ref b, rfl, b, _, 0, .int o, rfl, rfl, hB, atI_nat (j := 0) rfl, .int n, rfl, o, n, rfl, rfl,
        ⟨hn0, bits_le (n := 9000) (by omega) (by decide)⟩, ?_⟩
      refine ⟨.ref b, rfl, b, _, 0, 0, rfl, rfl, hb, rfl, ?_⟩
      refine ⟨.int (o % n), rfl, ?_⟩
      have d0 : 0 ≤ o / n := Int.ediv_nonneg ho.1 (by omega)
      have d1 : o / n ≤ o := Int.ediv_le_self _ ho.1
      exact q _ _ (Kept.refl b H).upd ⟨o / n, m, k, upd_same, ⟨d0, by omega⟩, hm, ⟨hk.1, by omega⟩⟩
        (Int.emod_nonneg _ (by omega)) (Int.emod_lt_of_pos _ hn0)
    · have hn0 : 0 < n := by omega
      -- box[2] = box[2] + 1
      refine ⟨.ref b, rfl, b, _, 2, .int k, rfl, rfl, hB, atI_nat (j := 2) rfl, k, 1, rfl, rfl, ?_⟩
      refine ⟨.ref b, rfl, b, _, 2, 2, rfl, rfl, hb, rfl, ?_⟩
      generalize hH1 : upd H b _ = H1
      have hb1 : H1 b = some (.lst [.int o, .int m, .int (k + 1)]) := by
        rw [← hH1, upd_same]
        rfl
      have hB1 : SqL K H1 b [.int o, .int m, .int (k + 1)] := SqL.of hb1
      have kp : Kept b H H1 := by
        rw [← hH1]
        exact (Kept.refl b H).upd
      have hk1 : 0 ≤ k + 1 := by omega
      have hk2 : k + 1 ≤ 100001 := by omega
      -- mixed
      refine ⟨.ref b, rfl, b, _, 1, .int m, rfl, rfl, hB1, atI_nat (j := 1) rfl, .ref b, rfl, b, _, 2, .int (k + 1), rfl, rfl,
        hB1, atI_nat (j := 2) rfl, 65551, k + 1, rfl, rfl, .inl ⟨by decide, by decide⟩, ?_⟩
      refine ⟨.ref b, rfl, b, _, 2, .int (k + 1), rfl, rfl, hB1, atI_nat (j := 2) rfl, 65551 * (k + 1), k + 1, rfl, rfl,
        .inr ⟨by omega, by omega⟩, ?_⟩
      refine ⟨m, 65551 * (k + 1) * (k + 1), rfl, rfl, m + 65551 * (k + 1) * (k + 1), 29, rfl, rfl, _, 48281, rfl, rfl,
        .inr ⟨by decide, by decide⟩, _, 2305843009213693921, rfl, rfl, by show (0 : Int) < 2305843009213693921; decide, ?_⟩
      show gName 3 (V.int ((m + 65551 * (k + 1) * (k + 1) + 29) * 48281 % 2305843009213693921)) _ H1 _
      generalize hx : (m + 65551 * (k + 1) * (k + 1) + 29) * 48281 % 2305843009213693921 = x
      have hx0 : 0 ≤ x := by
        rw [← hx]
        exact Int.emod_nonneg _ (by decide)
      have hx1 : x < 2305843009213693921 := by
        rw [← hx]
        exact Int.emod_lt_of_pos _ (by decide)
      -- mixed again
      refine ⟨.int x, rfl, .int x, rfl, x, 1000039, rfl, rfl, by show (0 : Int) < 1000039; decide, .ref b, rfl, b, _, 2, .int (k + 1), rfl, rfl,
        hB1, atI_nat (j := 2) rfl, 99989, k + 1, rfl, rfl, .inl ⟨by decide, by decide⟩, _, _, rfl, rfl, x, _, rfl, rfl,
        .inl ⟨by omega, by omega⟩, _, 2305843009213693907, rfl, rfl, by show (0 : Int) < 2305843009213693907; decide, ?_⟩
      show gName 3 (V.int (x * (x % 1000039 + 99989 * (k + 1)) % 2305843009213693907)) _ H1 _
      generalize hy : x * (x % 1000039 + 99989 * (k + 1)) % 2305843009213693907 = y
      -- the end
      refine ⟨.int y, rfl, y, 109, rfl, rfl, ⟨by decide, by decide⟩, .int y, rfl, y, 1000081, rfl, rfl, ⟨by decide, by decide⟩,
        _, _, rfl, rfl, .int n, rfl, _, n, rfl, rfl, hn0, ?_⟩
      exact q H1 _ kp ⟨o, m, k + 1, hb1, ho, hm, ⟨hk1, by omega⟩⟩ (Int.emod_nonneg _ (by omega)) (Int.emod_lt_of_pos _ hn0)
end
end K2

namespace K2
open PySem PySem.Spec PyProof.Rows L2

theorem scOf : FnScope ["_law_box_here", "_law_some"] ["_law_box_here", "_law_some"] (defScope sOf) :=
  ⟨rfl, rfl, rfl, by decide +kernel, rfl, by decide +kernel, by decide +kernel⟩
theorem scBox : FnScope ["_law_script", "_law_k", "_law_digits", "_law_own"] ["_law_script", "_law_k"] (defScope sBox) :=
  ⟨rfl, rfl, rfl, by decide +kernel, rfl, by decide +kernel, by decide +kernel⟩

/-- the names of the built-in things that the text reads: none is a name of its own -/
structure Bare (mg : Str → Option Value) : Prop where
  len : mg "len" = none
  abs : mg "abs" = none
  int : mg "int" = none
  isin : mg "isinstance" = none
  str : mg "str" = none
  all : mg "all" = none
  range : mg "range" = none
  list : mg "list" = none
  max : mg "max" = none
  min : mg "min" = none

def spOf : Sp := fun vs H Q _ => ∃ (b l : Addr) (xs : List V) (c : Int), vs = [.ref b, .ref l] ∧ Box c H b ∧
  H l = some (.lst xs) ∧ l ≠ b ∧ 1 ≤ xs.length ∧ xs.length ≤ 1000 ∧ c ≤ 100000 ∧
  ∀ H' v, Kept b H H' → Box (c + 1) H' b → v ∈ xs → Q v H'

def spBox (K : PySem.W.Frag) : Sp := fun vs H Q _ => ∃ (a : Addr) (ns : List Int) (k : Int), vs = [.ref a, .int k] ∧
  SqL K H a (ns.map V.int) ∧ 0 ≤ k ∧ k ≤ 2 ∧ ∀ H' p, Same H H' → H p = none → Box 0 H' p → Q (.ref p) H'

section
variable {P : Program} {w : World} {K : PySem.W.Frag} {mg : Str → Option Value} {base : Heap}

theorem op_powB {X : Cx} : OpR X (binaryOp .Pow)
    (rI (fun i j => 0 ≤ j ∧ (Builtin.Int.intBits i : Int) * j ≤ 2 ^ 27) fun i j => .int (i ^ j.toNat)) :=
  opI fun _ _ _ _ _ _ _ hc q => pow_int hc.1 hc.2 q

theorem any_val {t : TE} {σ : L2.St} {H : Hp} {Q : VK} (h : ∀ Q' : VK, (∀ d : Int, Q' (.int d) H) → t σ H Q')
    (hq : ∀ d, Q (.int d) H) : t σ H Q := h Q hq
theorem same_upd {H : Hp} {p : Addr} {o : HO} (h : H p = none) : Same H (upd H p o) := fun b x e => by
  rw [upd_ne (ne_of_none e h)]
  exact e

theorem atI_toNat {xs : List V} {i : Int} {v : V} (h0 : 0 ≤ i) (h : xs[i.toNat]? = some v) : atI xs i = some v := by
  have e : i = ((i.toNat : Nat) : Int) := by omega
  rw [e]
  exact atI_nat h

theorem b01 (t : Bool) : -(2 ^ 64) < (if t then (1 : Int) else 0) ∧ (if t then (1 : Int) else 0) < 2 ^ 64 := by
  cases t <;> decide

theorem ok_of {f fT : Addr} {fd fdT : FuncData} (F : Fun K "_law_of" "_law_of" sOf f fd)
    (FT : Fun K "_law_take" "_law_take" sTake fT fdT) (bT : Binds K fdT ["_law_box_here", "_law_many"] [])
    (gT : mg "_law_take" = some (.ref fT)) (Z : Bare mg) :
    FnOk P w K mg base CX0 2 f fd ["_law_box_here", "_law_some"] spOf := by
  have GT : FnOk P w K mg base CX0 1 fT fdT ["_law_box_here", "_law_many"] spTake := ok_take FT
  refine F.ok scOf (fun vs H Q E h => ?_) (fun cdv A outer s H vs Q E hr h => ?_)
  · obtain ⟨b, l, xs, c, rfl, _⟩ := h
    rfl
  · obtain ⟨b, l, xs, c, rfl, hb, hl, nlb, n1, n2, hc, q⟩ := h
    refine ⟨_, pss_one (ps_ret (pe_ix ix_list (pv 1) (pe_call GT hr (by rfl) gT FT.kp bT .nil pass0
      (pa_cons (pv 0) (pa_cons (pe_callB call_len_seq (by rfl) Z.len PySem.boot_len (pa_cons (pv 1) pa_nil)) pa_nil)))
      (fun _ _ => rfl))), ?_⟩
    refine ⟨.ref l, rfl, .ref b, rfl, .ref l, rfl, l, xs, rfl, .inl (SqL.of hl), b, _, c, rfl, hb, by omega, by omega, hc, fun H' r kp hb' r0 r1 => ?_⟩
    have hl' : H' l = some (.lst xs) := kp _ _ hl nlb
    have hi : r.toNat < xs.length := by omega
    have er : r = ((r.toNat : Nat) : Int) := by omega
    refine ⟨l, xs, r, xs[r.toNat], rfl, rfl, SqL.of hl', ?_, q H' _ kp hb' (List.getElem_mem hi)⟩
    exact atI_toNat r0 (by simp [hi])

/-- own and mixed, for any digits -/
theorem own_lt (d : Int) (t : Bool) : 0 ≤ (if d < 0 then -d else d) % ((10 : Int) ^ (60 : Int).toNat) ^ (5 : Int).toNat * (if t then 1 else 0) ∧
    (if d < 0 then -d else d) % ((10 : Int) ^ (60 : Int).toNat) ^ (5 : Int).toNat * (if t then 1 else 0) < 2 ^ 1100 := by
  have h1 : (0 : Int) < ((10 : Int) ^ (60 : Int).toNat) ^ (5 : Int).toNat := by decide +kernel
  have h2 : ((10 : Int) ^ (60 : Int).toNat) ^ (5 : Int).toNat < 2 ^ 1100 := by decide +kernel
  generalize ((10 : Int) ^ (60 : Int).toNat) ^ (5 : Int).toNat = B at h1 h2 ⊢
  generalize (if d < 0 then -d else d) = x
  have h3 : 0 ≤ x % B := Int.emod_nonneg _ (by omega)
  have h4 : x % B < B := Int.emod_lt_of_pos _ h1
  cases t
  · simp only [Bool.false_eq_true, if_false, Int.mul_zero]
    exact ⟨Int.le_refl 0, by omega⟩
  · simp only [if_true, Int.mul_one]
    exact ⟨h3, by omega⟩

theorem ok_box {f : Addr} {fd : FuncData} (F : Fun K "_law_box" "_law_box" sBox f fd) (Z : Bare mg) :
    FnOk P w K mg base CX0 1 f fd ["_law_script", "_law_k"] (spBox K) := by
  refine F.ok scBox (fun vs H Q E h => ?_) (fun cdv A outer s H vs Q E hr h => ?_)
  · obtain ⟨a, ns, k, rfl, _⟩ := h
    rfl
  · obtain ⟨a, ns, k, rfl, hS, k0, k2, q⟩ := h
    refine ⟨_, pss_cons (ps_set (i := 2) scBox.nd rfl (.inl rfl)
        (pe_ifExp (pt_cmpR op_lt (pv 1) (pe_callB call_len_seq (by rfl) Z.len PySem.boot_len (pa_cons (pv 0) pa_nil)) (nomark _))
          (pe_ix ix_list (pv 0) (pv 1) (fun _ _ => rfl)) (pe_op op_add (pe_op op_mul pe_int (pv 1)) pe_int)))
      (pss_cons (ps_set (i := 3) scBox.nd rfl (.inl rfl)
        (pe_op op_mul (pe_op op_mod (pe_callB call_abs (by rfl) Z.abs (by decide +kernel) (pa_cons (pv 2) pa_nil))
            (pe_op op_powB (pe_op op_pow pe_int pe_int) pe_int))
          (pe_callTy call_int1 (by rfl) Z.int (by decide +kernel) (pa_cons (pe_cmpR op_ge
            (pe_callB call_abs (by rfl) Z.abs (by decide +kernel) (pa_cons (pv 2) pa_nil)) (pe_op op_pow pe_int pe_int) (nomark _)) pa_nil))))
      (pss_one (ps_ret (pe_lst (pa_cons (pv 3) (pa_cons
        (pe_op op_mod (pe_op op_add (pe_op op_add (pe_op op_mul (pe_op op_mod (pv 2) pe_int) pe_int)
          (pe_op op_mul (pe_op op_mul pe_int (pv 1)) (pv 1))) pe_int) pe_int) (pa_cons pe_int pa_nil))))))), ?_⟩
    show tIf _ _ _ _ _ _
    refine any_val (fun Qc hq => ?_) (fun d => ?_)
    · refine ⟨.int k, rfl, .ref a, rfl, a, _, rfl, .inl hS, k, _, rfl, rfl, _, rfl, ?_⟩
      refine ite2 (fun e => ?_) (fun e => ?_)
      · have e' : k < ((ns.map V.int).length : Int) := of_decide_eq_true e
        rw [List.length_map] at e'
        have hi : k.toNat < ns.length := by omega
        exact ⟨.ref a, rfl, .int k, rfl, a, _, k, .int ns[k.toNat], rfl, rfl, hS, atI_toNat k0 (by simp [hi]), hq _⟩
      · exact ⟨.int k, rfl, 37, k, rfl, rfl, .inl ⟨by decide, by decide⟩, 37 * k, 5, rfl, rfl, hq _⟩
    · -- own
      refine ⟨.int d, rfl, d, rfl, 10, 60, rfl, rfl, ⟨by decide, by decide, by decide⟩, _, 5, rfl, rfl, ⟨by decide, by decide +kernel⟩, _, _, rfl, rfl,
        (by show (0 : Int) < ((10 : Int) ^ (60 : Int).toNat) ^ (5 : Int).toNat; decide +kernel), ?_⟩
      refine ⟨.int d, rfl, d, rfl, 10, 18, rfl, rfl, ⟨by decide, by decide, by decide⟩, _, _, rfl, rfl, .inr ⟨_, rfl, _, _, rfl, rfl, .inr (b01 _), ?_⟩⟩
      show gName 3 (.int ((if d < 0 then -d else d) % ((10 : Int) ^ (60 : Int).toNat) ^ (5 : Int).toNat *
        (if decide ((10 : Int) ^ (18 : Int).toNat ≤ (if d < 0 then -d else d)) = true then 1 else 0))) _ H _
      have B := own_lt d (decide ((10 : Int) ^ (18 : Int).toNat ≤ (if d < 0 then -d else d)))
      revert B
      generalize (if d < 0 then -d else d) % ((10 : Int) ^ (60 : Int).toNat) ^ (5 : Int).toNat *
        (if decide ((10 : Int) ^ (18 : Int).toNat ≤ (if d < 0 then -d else d)) = true then 1 else 0) = o
      intro B
      -- the list
      refine ⟨.int o, rfl, .int d, rfl, d, 2305843009213693951, rfl, rfl, (by show (0 : Int) < 2305843009213693951; decide), _, 70079, rfl, rfl, .inr ⟨by decide, by decide⟩,
        .int k, rfl, 4799, k, rfl, rfl, .inl ⟨by decide, by decide⟩, .int k, rfl, 4799 * k, k, rfl, rfl, .inr ⟨by omega, by omega⟩, _, _, rfl, rfl, _, 71, rfl, rfl,
        _, 2305843009213693921, rfl, rfl, (by show (0 : Int) < 2305843009213693921; decide), (by show 3 ≤ sizeLine; decide), fun p hp => ?_⟩
      refine q _ p (same_upd hp) hp ⟨o, _, 0, upd_same, B, ⟨Int.emod_nonneg _ (by decide), ?_⟩, ⟨by decide, by decide⟩⟩
      exact Int.lt_trans (Int.emod_lt_of_pos _ (by decide)) (by decide)
end
end K2

set_option maxHeartbeats 2000000
/-! The program's own defs below `tokens`. -/
namespace K2
open PySem PySem.Spec PyProof.Rows L2

/-- the signs of a text -/
abbrev cp (x : Str) : List Nat := x.cps.toList
theorem cp_len (x : Str) : (cp x).length = x.length := by simp [cp, Str.length]
theorem cp_get (x : Str) (i : Nat) : x.cps[i]? = (cp x)[i]? := by simp [cp]
theorem drop_get {l : List Nat} {a i : Nat} : (l.drop a)[i]? = l[a + i]? := by rw [List.getElem?_drop]
theorem drop_at {l : List Nat} {a c : Nat} (h : l[a]? = some c) : l.drop a = c :: l.drop (a + 1) := by
  obtain ⟨lt, e⟩ := List.getElem?_eq_some_iff.mp h
  rw [List.drop_eq_getElem_cons lt, e]

def most : Nat := 2 ^ 19

/-! ### the first sign of a sort -/
theorem span_all {p : Nat → Bool} : ∀ {l : List Nat}, (∀ (i c : Nat), l[i]? = some c → p c = true) → span p l = l.length
  | [], _ => rfl
  | x :: r, h => by
    rw [span_pos (h 0 x rfl), span_all (l := r) fun i c e => h (i + 1) c e]
    rfl
theorem span_first {p : Nat → Bool} : ∀ {l : List Nat} {n c : Nat}, (∀ (i c : Nat), i < n → l[i]? = some c → p c = true) → l[n]? = some c → p c = false → span p l = n
  | [], _, _, _, h, _ => by simp at h
  | x :: r, 0, c, _, h, hc => by
    cases h
    exact span_neg hc
  | x :: r, n + 1, c, ha, h, hc => by
    rw [span_pos (ha 0 x (by omega) rfl), span_first (l := r) (n := n) (fun i c lt e => ha (i + 1) c (by omega) e) h hc]

theorem find3_sign (x : Str) (c a : Nat) (ha : a ≤ (cp x).length) :
    Txt.find3 x ⟨#[c]⟩ (a : Int) = if span (fun y => decide (y ≠ c)) ((cp x).drop a) = ((cp x).drop a).length then -1 else ((a + span (fun y => decide (y ≠ c)) ((cp x).drop a) : Nat) : Int) := by
  unfold Txt.find3
  have e0 : fromIndex x.length (a : Int) = a := by
    unfold fromIndex
    rw [if_neg (by omega)]
    omega
  rw [e0, StrLaws.occ_eq]
  have ll := cp_len x
  rcases StrLaws.occ_first x ⟨#[c]⟩ x.length 1 (Nat.le_refl 1) (List.range' a (x.length + 1 - a)) a (fun i hi => (List.mem_range'_1.mp hi).1) with ⟨e, n⟩ | ⟨pre, k, post, el, e, at_, n⟩
  · rw [e]
    have z : span (fun y => decide (y ≠ c)) ((cp x).drop a) = ((cp x).drop a).length := by
      refine span_all fun i d hd => decide_eq_true ?_
      rintro rfl
      rw [drop_get] at hd
      have lt := (List.getElem?_eq_some_iff.mp hd).1
      exact n (a + i) (List.mem_range'_1.mpr ⟨by omega, by omega⟩) ((StrLaws.subAt_one x d (a + i)).mpr hd)
    rw [if_pos z]
  · have hk : k = a + pre.length := by
      have := congrArg (fun l => l[pre.length]?) el
      simp only [List.getElem?_append_right (Nat.le_refl _), Nat.sub_self, List.getElem?_cons_zero] at this
      have lt : pre.length < x.length + 1 - a := by
        have := congrArg List.length el
        rw [List.length_range', List.length_append, List.length_cons] at this
        omega
      rw [List.getElem?_range' lt] at this
      have := Option.some.inj this
      omega
    have hc := (StrLaws.subAt_one x c k).mp at_
    have hs : span (fun y => decide (y ≠ c)) ((cp x).drop a) = pre.length := by
      refine span_first (c := c) (fun i d lt hd => decide_eq_true ?_) (by rw [drop_get, ← hk]; exact hc) (decide_eq_false (fun z => z rfl))
      rintro rfl
      rw [drop_get] at hd
      refine n (a + i) ?_ ((StrLaws.subAt_one x d (a + i)).mpr hd)
      have := congrArg (fun l => l[i]?) el
      simp only [List.getElem?_append_left lt] at this
      have lt2 : i < x.length + 1 - a := by
        have := congrArg List.length el
        rw [List.length_range', List.length_append, List.length_cons] at this
        omega
      rw [List.getElem?_range' lt2] at this
      rw [show a + i = a + 1 * i by omega]
      exact List.mem_of_getElem? this.symm
    have lk : k < (cp x).length := (List.getElem?_eq_some_iff.mp hc).1
    rw [hs, if_neg (by rw [List.length_drop]; omega), ← hk]
    generalize (forIn (m := Id) (List.range' a (x.length + 1 - a)) ((#[] : Array Nat), a) (StrLaws.occBody x ⟨#[c]⟩ x.length 1)).run.fst = O at e ⊢
    obtain ⟨l⟩ := O
    cases l with
    | nil => simp at e
    | cons y r =>
      have ey : y = k := by simpa using e
      subst ey
      rfl

theorem one_lt {c d : Nat} : decide ([c] < [d]) = decide (c < d) := by
  have e : ([c] < [d]) ↔ c < d := by
    rw [List.cons_lt_cons_iff]
    constructor
    · rintro (h | ⟨_, h⟩)
      · exact h
      · exact absurd h (List.not_lt_nil _)
    · exact fun h => .inl h
  by_cases h : c < d
  · rw [decide_eq_true h, decide_eq_true (e.mpr h)]
  · rw [decide_eq_false h, decide_eq_false (fun z => h (e.mp z))]

structure Names (mg : Str → Option Value) : Prop where
  let_ : ∃ t, mg "LETTERS" = some (.str "abcdefghijklmnopqrstuvwxyz" t)
  dig : ∃ t, mg "DIGITS" = some (.str "0123456789" t)
  sig : ∃ t, mg "SIGNS" = some (.str "{}[]():.,=+-*" t)
  quo : ∃ t, mg "QUOTE" = some (.str "\"" t)
  lng : ∃ t, mg "LONGEST_STRING" = some (.int 60 t)

theorem scInner : FnScope ["sign"] ["sign"] (defScope sInner) := ⟨rfl, rfl, rfl, by decide +kernel, rfl, by decide +kernel, by decide +kernel⟩
theorem scNext : FnScope ["text", "at"] ["text", "at"] (defScope sNext) := ⟨rfl, rfl, rfl, by decide +kernel, rfl, by decide +kernel, by decide +kernel⟩
theorem scLine : FnScope ["text", "at", "end"] ["text", "at"] (defScope sLine) := ⟨rfl, rfl, rfl, by decide +kernel, rfl, by decide +kernel, by decide +kernel⟩
theorem scEnd : FnScope ["text", "start", "sign", "end"] ["text", "start"] (defScope sEnd) := ⟨rfl, rfl, rfl, by decide +kernel, rfl, by decide +kernel, by decide +kernel⟩
theorem scRun : FnScope ["text", "at", "letters"] ["text", "at", "letters"] (defScope sRun) := ⟨rfl, rfl, rfl, by decide +kernel, rfl, by decide +kernel, by decide +kernel⟩
theorem scStrE : FnScope ["text", "start", "at"] ["text", "start"] (defScope sStrEnd) := ⟨rfl, rfl, rfl, by decide +kernel, rfl, by decide +kernel, by decide +kernel⟩

def spInner : Sp := fun vs H Q _ => ∃ c : Nat, vs = [.str ⟨#[c]⟩] ∧ Q (.bl (isIn c)) H
def spNext : Sp := fun vs H Q _ => ∃ (x : Str) (a : Nat), vs = [.str x, .int a] ∧ a ≤ (cp x).length ∧ (cp x).length ≤ most ∧ Q (.int ((a + skip ((cp x).drop a) : Nat) : Int)) H
def spLine : Sp := fun vs H Q _ => ∃ (x : Str) (a : Nat), vs = [.str x, .int a] ∧ a ≤ (cp x).length ∧ (cp x).length ≤ most ∧ Q (.int ((a + span noFeed ((cp x).drop a) : Nat) : Int)) H
def spRun : Sp := fun vs H Q _ => ∃ (x z : Str) (a : Nat), vs = [.str x, .int a, .str z] ∧ a ≤ (cp x).length ∧ (cp x).length ≤ most ∧ Q (.int ((a + span (fun c => decide (c ∈ cp z)) ((cp x).drop a) : Nat) : Int)) H
def strE (l : List Nat) (a : Nat) : Nat := if (l.drop (a + 1))[span isIn (l.drop (a + 1))]? = some 34 ∧ span isIn (l.drop (a + 1)) ≤ 60 then a + (span isIn (l.drop (a + 1)) + 2) else a
def spStrE : Sp := fun vs H Q _ => ∃ (x : Str) (a : Nat), vs = [.str x, .int a] ∧ a < (cp x).length ∧ (cp x).length ≤ most ∧ Q (.int ((strE (cp x) a : Nat) : Int)) H
def spEnd : Sp := fun vs H Q _ => ∃ (x : Str) (a : Nat), vs = [.str x, .int a] ∧ a < (cp x).length ∧ (cp x).length ≤ most ∧ Q (.int ((a + tokL ((cp x).drop a) : Nat) : Int)) H

section
variable {P : Program} {w : World} {K : PySem.W.Frag} {mg : Str → Option Value} {base : Heap}

theorem ok_inner {f : Addr} {fd : FuncData} (F : Fun K "is_inner" "is_inner" sInner f fd) (Z : Names mg) :
    FnOk P w K mg base CX0 1 f fd ["sign"] spInner := by
  obtain ⟨tq, gq⟩ := Z.quo
  refine F.ok scInner (fun vs H Q E h => ?_) (fun cdv A outer s H vs Q E hr h => ?_)
  · obtain ⟨c, rfl, _⟩ := h
    rfl
  · obtain ⟨c, rfl, q⟩ := h
    refine ⟨_, pss_one (ps_ret (pe_and (pe_chain op_le_str op_le_str pe_str (pv 0) pe_str)
      (pe_and (pe_cmpR op_ne (pv 0) (pe_glob (v := .str "\"") rfl gq ⟨_, rfl⟩) (nomark _)) (pe_one (pe_cmpR op_ne (pv 0) pe_str (nomark _)))))), ?_⟩
    have e0 : isIn c = (!decide ([c] < [32]) && (!decide ([126] < [c]) && (!decide (V.str ⟨#[c]⟩ = V.str "\"") && !decide (V.str ⟨#[c]⟩ = V.str "\\")))) := by
      have ea : decide (V.str ⟨#[c]⟩ = V.str "\"") = decide (c = 34) := by
        rw [show ("\"" : Str) = ⟨#[34]⟩ by decide +kernel]
        by_cases h : c = 34
        · subst h; rfl
        · rw [decide_eq_false h, decide_eq_false (by intro z; cases z; exact h rfl)]
      have eb : decide (V.str ⟨#[c]⟩ = V.str "\\") = decide (c = 92) := by
        rw [show ("\\" : Str) = ⟨#[92]⟩ by decide +kernel]
        by_cases h : c = 92
        · subst h; rfl
        · rw [decide_eq_false h, decide_eq_false (by intro z; cases z; exact h rfl)]
      rw [one_lt, one_lt, ea, eb, Bool.eq_iff_iff]
      simp [isIn]
      omega
    rw [e0] at q
    refine ⟨.str ⟨#[c]⟩, rfl, _, _, rfl, rfl, _, rfl, ?_⟩
    refine ite2 (fun e1 => ?_) (fun e1 => ?_)
    · have e1' : (!decide ([c] < [32])) = true := e1
      rw [e1', Bool.true_and] at q
      refine ⟨_, _, rfl, rfl, _, rfl, ?_⟩
      refine ite2 (fun e2 => ?_) (fun e2 => ?_)
      · have e2' : (!decide ([126] < [c])) = true := e2
        rw [e2', Bool.true_and] at q
        refine ⟨.str ⟨#[c]⟩, rfl, rfl, _, rfl, ?_⟩
        refine ite2 (fun e3 => ?_) (fun e3 => ?_)
        · rw [e3, Bool.true_and] at q
          exact ⟨.str ⟨#[c]⟩, rfl, rfl, q⟩
        · rw [Bool.eq_false_iff.mpr e3, Bool.false_and] at q
          exact q
      · have e2' : (!decide ([126] < [c])) = false := Bool.eq_false_iff.mpr e2
        rw [e2', Bool.false_and] at q
        exact q
    · have e1' : (!decide ([c] < [32])) = false := Bool.eq_false_iff.mpr e1
      rw [e1', Bool.false_and] at q
      exact ⟨false, rfl, iteF q⟩

theorem most_line {n : Nat} (h : n ≤ most) : n ≤ sizeLine := Nat.le_trans h (by decide)
theorem most63 {n : Nat} (h : n ≤ most) : (n : Int) < 2 ^ 63 := by
  have : n ≤ 2 ^ 19 := h
  omega

/-- at < len(text) -/
theorem lt_dec (x : Str) (a : Nat) : decide ((a : Int) < ((x.length : Nat) : Int)) = decide (a < (cp x).length) := by
  rw [cp_len]
  by_cases h : a < x.length
  · rw [decide_eq_true h, decide_eq_true (by omega)]
  · rw [decide_eq_false h, decide_eq_false (by omega)]

theorem ok_line {f : Addr} {fd : FuncData} (F : Fun K "line_end" "line_end" sLine f fd) (Z : Bare mg) :
    FnOk P w K mg base CX0 1 f fd ["text", "at"] spLine := by
  refine F.ok scLine (fun vs H Q E h => ?_) (fun cdv A outer s H vs Q E hr h => ?_)
  · obtain ⟨x, a, rfl, _⟩ := h
    rfl
  · obtain ⟨x, a, rfl, ha, hl, q⟩ := h
    refine ⟨_, pss_cons (ps_set (i := 2) scLine.nd rfl (.inl rfl) (pe_bm PySem.F.plainAttrs_str PySem.F.slot_str_find PySem.F.type_str_find mt_find3 (pv 0) (pa_cons pe_str (pa_cons (pv 1) pa_nil))))
      (pss_one (ps_ret (pe_ifExp (pt_cmpR op_lt (pv 2) pe_int (nomark _)) (pe_callB call_len_str (by rfl) Z.len PySem.boot_len (pa_cons (pv 0) pa_nil)) (pv 2)))), ?_⟩
    refine ⟨.str x, rfl, rfl, .int a, rfl, x, _, _, rfl, rfl, ?_⟩
    have e : noFeed = fun y => decide (y ≠ 10) := rfl
    have ef := find3_sign x 10 a ha
    rw [← e] at ef
    show gName 2 (V.int (Txt.find3 x ⟨#[10]⟩ (a : Int))) _ _ _
    rw [ef]
    have sl := span_le noFeed ((cp x).drop a)
    by_cases z : span noFeed ((cp x).drop a) = ((cp x).drop a).length
    · rw [if_pos z]
      refine ⟨.int (-1), rfl, _, _, rfl, rfl, _, rfl, iteT ⟨.str x, rfl, x, rfl, most_line (by rw [← cp_len]; exact hl), ?_⟩⟩
      rw [z, List.length_drop, show a + ((cp x).length - a) = x.length by rw [← cp_len]; omega] at q
      exact q
    · rw [if_neg z]
      refine ⟨_, rfl, _, _, rfl, rfl, _, rfl, ?_⟩
      rw [decide_eq_false (by omega)]
      exact iteF ⟨_, rfl, q⟩

theorem ok_run {f : Addr} {fd : FuncData} (F : Fun K "run_end" "run_end" sRun f fd) (Z : Bare mg) :
    FnOk P w K mg base CX0 1 f fd ["text", "at", "letters"] spRun := by
  refine F.ok scRun (fun vs H Q E h => ?_) (fun cdv A outer s H vs Q E hr h => ?_)
  · obtain ⟨x, z, a, rfl, _⟩ := h
    rfl
  · obtain ⟨x, z, a, rfl, ha, hl, q⟩ := h
    refine ⟨_, pss_cons (ps_while PassesOwn.never
        (PW.pt (pw_and (pt_cmpR op_lt (pv 1) (pe_callB call_len_str (by rfl) Z.len PySem.boot_len (pa_cons (pv 0) pa_nil)) (nomark _))
          (pw_and1 (pt_cmpR op_in_sign (pe_item_str (pv 0) (pv 1) (fun _ _ => rfl)) (pv 2) (by with_unfolding_all rfl)))))
        (pss_one (ps_aug (i := 1) scRun.nd rfl (.inl rfl) pe_int ip_add)))
      (pss_one (ps_ret (pv 1))), ?_⟩
    generalize hp : (fun c => decide (c ∈ cp z)) = p at q
    refine ⟨fun m σ H' => ∃ b : Nat, m = (cp x).length - b ∧ σ = [some (.str x), some (.int b), some (.str z)] ∧ H = H' ∧ b ≤ (cp x).length ∧ b + span p ((cp x).drop b) = a + span p ((cp x).drop a), ⟨_, a, rfl, rfl, rfl, ha, rfl⟩, ?_⟩
    rintro m σ H' ⟨b, rfl, rfl, rfl, hb, he⟩
    refine ⟨.int b, rfl, .str x, rfl, x, rfl, most_line (by rw [← cp_len]; exact hl), _, _, rfl, rfl, _, rfl, ?_⟩
    rw [lt_dec]
    refine ite2 (fun e1 => ?_) (fun e1 => ?_)
    · have lt : b < (cp x).length := of_decide_eq_true e1
      have hc : (cp x)[b]? = some ((cp x)[b]) := List.getElem?_eq_getElem lt
      generalize (cp x)[b] = c at hc
      have m63 := most63 hl
      refine ⟨.str x, rfl, .int b, rfl, x, b, c, rfl, rfl, by omega, by omega, by rw [← cp_len]; omega, by rw [cp_get]; exact hc, .str z, rfl, c, z, rfl, rfl, _, rfl, ?_⟩
      have ec : decide (c ∈ z.cps.toList) = p c := by rw [← hp]
      rw [ec]
      cases hpc : p c with
      | true =>
        refine iteT ⟨fun σ' H' => ∃ m', m' < (cp x).length - b ∧ ∃ b : Nat, m' = (cp x).length - b ∧ σ' = [some (.str x), some (.int b), some (.str z)] ∧ H = H' ∧ b ≤ (cp x).length ∧ b + span p ((cp x).drop b) = a + span p ((cp x).drop a), fun _ _ w => w, ?_⟩
        refine ⟨.int b, rfl, b, 1, rfl, rfl, (cp x).length - (b + 1), by omega, b + 1, rfl, rfl, rfl, lt, ?_⟩
        rw [← he, drop_at hc, span_pos hpc]
        omega
      | false =>
        rw [drop_at hc, span_neg hpc] at he
        refine iteF ⟨.int b, rfl, ?_⟩
        rw [show b = a + span p ((cp x).drop a) by omega]
        exact q
    · have ge : ¬ b < (cp x).length := fun z => e1 (decide_eq_true z)
      rw [List.drop_eq_nil_of_le (by omega), span_nil] at he
      refine ⟨.int b, rfl, ?_⟩
      rw [show b = a + span p ((cp x).drop a) by omega]
      exact q

theorem pure_str (z : Str) (L : List Nat) (f : Nat → Bool) (hz : cp z = L) (ha : ∀ c ∈ L, c < 128) (hb : ∀ c, f c = true → c < 128) (hs : ∀ c, c < 128 → L.contains c = f c) (c : Nat) :
    decide (c ∈ cp z) = f c := by
  rw [hz, Bool.eq_iff_iff, decide_eq_true_iff]
  constructor
  · intro h
    rw [← hs c (ha c h)]
    exact List.contains_iff_mem.mpr h
  · intro h
    rw [← hs c (hb c h)] at h
    exact List.contains_iff_mem.mp h
theorem letters_is (c : Nat) : decide (c ∈ cp ("abcdefghijklmnopqrstuvwxyz" : Str)) = isLet c :=
  pure_str _ (List.range' 97 26) isLet (by decide +kernel) (by decide +kernel) (fun c h => by simp [isLet] at h; omega) (by decide +kernel) c
theorem digits_is (c : Nat) : decide (c ∈ cp ("0123456789" : Str)) = isDig c :=
  pure_str _ (List.range' 48 10) isDig (by decide +kernel) (by decide +kernel) (fun c h => by simp [isDig] at h; omega) (by decide +kernel) c
theorem signs_is (c : Nat) : decide (c ∈ cp ("{}[]():.,=+-*" : Str)) = isSign c :=
  pure_str _ signs isSign (by decide +kernel) (by decide +kernel) (fun c h => by
    exact (show ∀ d ∈ signs, d < 128 by decide +kernel) c (List.contains_iff_mem.mp h)) (by decide +kernel) c
def isLead (c : Nat) : Bool := isGap c || decide (c = 35)
theorem lead_is (c : Nat) : decide (c ∈ cp (" \n#" : Str)) = isLead c :=
  pure_str _ [32, 10, 35] isLead (by decide +kernel) (by decide +kernel) (fun c h => by simp [isLead, isGap] at h; omega) (by decide +kernel) c

theorem dec_sign (c d : Nat) (z : Str) (hz : z = ⟨#[d]⟩) : decide (V.str ⟨#[c]⟩ = V.str z) = decide (c = d) := by
  subst hz
  by_cases h : c = d
  · subst h
    rw [decide_eq_true rfl, decide_eq_true rfl]
  · rw [decide_eq_false h, decide_eq_false (by intro z; cases z; exact h rfl)]

theorem ok_next {f fL : Addr} {fd fdL : FuncData} (F : Fun K "next_start" "next_start" sNext f fd) (Z : Bare mg)
    (FL : Fun K "line_end" "line_end" sLine fL fdL) (bL : Binds K fdL ["text", "at"] []) (gL : mg "line_end" = some (.ref fL)) :
    FnOk P w K mg base CX0 2 f fd ["text", "at"] spNext := by
  have GL : FnOk P w K mg base CX0 1 fL fdL ["text", "at"] spLine := ok_line FL Z
  refine F.ok scNext (fun vs H Q E h => ?_) (fun cdv A outer s H vs Q E hr h => ?_)
  · obtain ⟨x, a, rfl, _⟩ := h
    rfl
  · obtain ⟨x, a, rfl, ha, hl, q⟩ := h
    refine ⟨_, pss_cons (ps_while PassesOwn.never
        (PW.pt (pw_and (pt_cmpR op_lt (pv 1) (pe_callB call_len_str (by rfl) Z.len PySem.boot_len (pa_cons (pv 0) pa_nil)) (nomark _))
          (pw_and1 (pt_cmpR op_in_sign (pe_item_str (pv 0) (pv 1) (fun _ _ => rfl)) pe_str (by with_unfolding_all rfl)))))
        (pss_one (ps_if (pt_cmpR op_eq (pe_item_str (pv 0) (pv 1) (fun _ _ => rfl)) pe_str (nomark _))
          (pss_one (ps_set (i := 1) scNext.nd rfl (.inl rfl) (pe_call GL hr (by rfl) gL FL.kp bL .nil pass0 (pa_cons (pv 0) (pa_cons (pv 1) pa_nil)))))
          (pss_one (ps_aug (i := 1) scNext.nd rfl (.inl rfl) pe_int ip_add)))))
      (pss_one (ps_ret (pv 1))), ?_⟩
    refine ⟨fun m σ H' => ∃ b : Nat, m = (cp x).length - b ∧ σ = [some (.str x), some (.int b)] ∧ H = H' ∧ b ≤ (cp x).length ∧ b + skip ((cp x).drop b) = a + skip ((cp x).drop a), ⟨_, a, rfl, rfl, rfl, ha, rfl⟩, ?_⟩
    rintro m σ H' ⟨b, rfl, rfl, rfl, hb, he⟩
    refine ⟨.int b, rfl, .str x, rfl, x, rfl, most_line (by rw [← cp_len]; exact hl), _, _, rfl, rfl, _, rfl, ?_⟩
    rw [lt_dec]
    refine ite2 (fun e1 => ?_) (fun e1 => ?_)
    · have lt : b < (cp x).length := of_decide_eq_true e1
      have hc : (cp x)[b]? = some ((cp x)[b]) := List.getElem?_eq_getElem lt
      generalize (cp x)[b] = c at hc
      have m63 := most63 hl
      have lt' : (b : Int) < x.length := by rw [← cp_len]; omega
      have hc' : x.cps[(b : Int).toNat]? = some c := by rw [cp_get]; exact hc
      refine ⟨.str x, rfl, .int b, rfl, x, b, c, rfl, rfl, by omega, by omega, lt', hc', c, _, rfl, rfl, _, rfl, ?_⟩
      rw [lead_is]
      refine ite2 (fun e2 => ?_) (fun e2 => ?_)
      · refine ⟨fun σ' H' => ∃ m', m' < (cp x).length - b ∧ ∃ b : Nat, m' = (cp x).length - b ∧ σ' = [some (.str x), some (.int b)] ∧ H = H' ∧ b ≤ (cp x).length ∧ b + skip ((cp x).drop b) = a + skip ((cp x).drop a), fun _ _ w => w, ?_⟩
        refine ⟨.str x, rfl, .int b, rfl, x, b, c, rfl, rfl, by omega, by omega, lt', hc', rfl, _, rfl, ?_⟩
        rw [dec_sign c 35 _ (by decide +kernel)]
        refine ite2 (fun e3 => ?_) (fun e3 => ?_)
        · have ec : c = 35 := of_decide_eq_true e3
          subst ec
          refine ⟨.str x, rfl, .int b, rfl, x, b, rfl, hb, hl, ?_⟩
          have e5 : noFeed 35 = true := by decide
          have e4 : span noFeed ((cp x).drop b) = span noFeed ((cp x).drop (b + 1)) + 1 := by rw [drop_at hc, span_pos e5]
          have e6 : span noFeed ((cp x).drop (b + 1)) ≤ ((cp x).drop (b + 1)).length := span_le _ _
          rw [List.length_drop] at e6
          refine ⟨(cp x).length - (b + span noFeed ((cp x).drop b)), by omega, b + span noFeed ((cp x).drop b), rfl, rfl, rfl, by omega, ?_⟩
          rw [← he, drop_at hc, skip_hash, ← drop_at hc, e4, List.drop_drop, show b + (span noFeed ((cp x).drop (b + 1)) + 1) = b + 1 + span noFeed ((cp x).drop (b + 1)) by omega]
          omega
        · have ec : c ≠ 35 := fun z => e3 (decide_eq_true z)
          have g : isGap c = true := by
            have e2' : (isGap c || decide (c = 35)) = true := e2
            rw [decide_eq_false ec, Bool.or_false] at e2'
            exact e2'
          refine ⟨.int b, rfl, b, 1, rfl, rfl, (cp x).length - (b + 1), by omega, b + 1, rfl, rfl, rfl, lt, ?_⟩
          rw [← he, drop_at hc, skip_gap g]
          omega
      · have e2' : (isGap c || decide (c = 35)) = false := Bool.eq_false_iff.mpr e2
        rw [Bool.or_eq_false_iff] at e2'
        rw [drop_at hc, skip_none e2'.1 (of_decide_eq_false e2'.2)] at he
        refine ⟨.int b, rfl, ?_⟩
        rw [show b = a + skip ((cp x).drop a) by omega]
        exact q
    · have ge : ¬ b < (cp x).length := fun z => e1 (decide_eq_true z)
      rw [List.drop_eq_nil_of_le (by omega), skip_nil] at he
      refine ⟨.int b, rfl, ?_⟩
      rw [show b = a + skip ((cp x).drop a) by omega]
      exact q

theorem ok_strE {f fI : Addr} {fd fdI : FuncData} (F : Fun K "string_end" "string_end" sStrEnd f fd) (Z : Bare mg) (N : Names mg)
    (FI : Fun K "is_inner" "is_inner" sInner fI fdI) (bI : Binds K fdI ["sign"] []) (gI : mg "is_inner" = some (.ref fI)) :
    FnOk P w K mg base CX0 2 f fd ["text", "start"] spStrE := by
  have GI : FnOk P w K mg base CX0 1 fI fdI ["sign"] spInner := ok_inner FI N
  obtain ⟨tq, gq⟩ := N.quo
  obtain ⟨tl, gl⟩ := N.lng
  refine F.ok scStrE (fun vs H Q E h => ?_) (fun cdv A outer s H vs Q E hr h => ?_)
  · obtain ⟨x, a, rfl, _⟩ := h
    rfl
  · obtain ⟨x, a, rfl, ha, hl, q⟩ := h
    refine ⟨_, pss_cons (ps_set (i := 2) scStrE.nd rfl (.inl rfl) (pe_op op_add (pv 1) pe_int))
      (pss_cons (ps_while PassesOwn.never
        (PW.pt (pw_and (pt_cmpR op_lt (pv 2) (pe_callB call_len_str (by rfl) Z.len PySem.boot_len (pa_cons (pv 0) pa_nil)) (nomark _))
          (pw_and1 (pt_val (pe_call GI hr (by rfl) gI FI.kp bI .nil pass0 (pa_cons (pe_item_str (pv 0) (pv 2) (fun _ _ => rfl)) pa_nil))))))
        (pss_one (ps_aug (i := 2) scStrE.nd rfl (.inl rfl) pe_int ip_add)))
      (pss_cons (ps_if (PW.pt (pw_or (pt_cmpR op_eq (pv 2) (pe_callB call_len_str (by rfl) Z.len PySem.boot_len (pa_cons (pv 0) pa_nil)) (nomark _))
          (pw_or (pt_cmpR op_ne (pe_item_str (pv 0) (pv 2) (fun _ _ => rfl)) (pe_glob (v := .str "\"") rfl gq ⟨_, rfl⟩) (nomark _))
            (pw_or1 (pt_cmpR op_gt (pe_op op_sub (pe_op op_sub (pv 2) (pv 1)) pe_int) (pe_glob (v := .int 60) rfl gl ⟨_, rfl⟩) (nomark _))))))
        (pss_one (ps_ret (pv 1))) pss_nil)
      (pss_one (ps_ret (pe_op op_add (pv 2) pe_int))))), ?_⟩
    refine ⟨.int a, rfl, _, _, rfl, rfl, ?_⟩
    obtain ⟨n, hn⟩ : ∃ n, n = span isIn ((cp x).drop (a + 1)) := ⟨_, rfl⟩
    have nl : n ≤ (cp x).length - (a + 1) := by
      rw [hn, ← List.length_drop]
      exact span_le _ _
    have ll : x.length = (cp x).length := (cp_len x).symm
    have m63 := most63 hl
    unfold strE at q
    rw [← hn] at q
    refine ⟨fun m σ H' => ∃ b : Nat, m = (cp x).length - b ∧ σ = [some (.str x), some (.int a), some (.int b)] ∧ H = H' ∧ b ≤ (cp x).length ∧ b + span isIn ((cp x).drop b) = a + 1 + n, ⟨_, a + 1, rfl, rfl, rfl, ha, by rw [hn]⟩, ?_⟩
    rintro m σ H' ⟨b, rfl, rfl, rfl, hb, he⟩
    refine ⟨.int b, rfl, .str x, rfl, x, rfl, most_line (by rw [← cp_len]; exact hl), _, _, rfl, rfl, _, rfl, ?_⟩
    rw [lt_dec]
    refine ite2 (fun e1 => ?_) (fun e1 => ?_)
    · have lt : b < (cp x).length := of_decide_eq_true e1
      have hc : (cp x)[b]? = some ((cp x)[b]) := List.getElem?_eq_getElem lt
      generalize (cp x)[b] = c at hc
      have lt' : (b : Int) < x.length := by rw [← cp_len]; omega
      have hc' : x.cps[(b : Int).toNat]? = some c := by rw [cp_get]; exact hc
      refine ⟨.str x, rfl, .int b, rfl, x, b, c, rfl, rfl, by omega, by omega, lt', hc', c, rfl, _, rfl, ?_⟩
      cases hin : isIn c with
      | true =>
        refine iteT ⟨fun σ' H' => ∃ m', m' < (cp x).length - b ∧ ∃ b : Nat, m' = (cp x).length - b ∧ σ' = [some (.str x), some (.int a), some (.int b)] ∧ H = H' ∧ b ≤ (cp x).length ∧ b + span isIn ((cp x).drop b) = a + 1 + n, fun _ _ w => w, ?_⟩
        refine ⟨.int b, rfl, b, 1, rfl, rfl, (cp x).length - (b + 1), by omega, b + 1, rfl, rfl, rfl, lt, ?_⟩
        rw [← he, drop_at hc, span_pos hin]
        omega
      | false =>
        rw [drop_at hc, span_neg hin] at he
        have eb : b = a + 1 + n := by omega
        rw [drop_get, ← eb, hc] at q
        have nq : decide (V.int (b : Int) = V.int (x.length : Int)) = false := decide_eq_false (by intro z; cases z; omega)
        refine iteF ⟨.int b, rfl, .str x, rfl, x, rfl, most_line (by rw [← cp_len]; exact hl), rfl, _, rfl, ?_⟩
        rw [nq]
        refine iteF ⟨.str x, rfl, .int b, rfl, x, b, c, rfl, rfl, by omega, by omega, lt', hc', rfl, _, rfl, ?_⟩
        rw [dec_sign c 34 _ (by decide +kernel)]
        by_cases ec : c = 34
        · subst ec
          refine iteF ⟨.int b, rfl, .int a, rfl, _, _, rfl, rfl, _, _, rfl, rfl, _, _, rfl, rfl, _, rfl, ?_⟩
          by_cases e6 : n ≤ 60
          · rw [if_pos ⟨rfl, e6⟩] at q
            rw [decide_eq_false (by omega)]
            refine iteF ⟨.int b, rfl, _, _, rfl, rfl, ?_⟩
            rw [show ((a + (n + 2) : Nat) : Int) = (b : Int) + 1 by omega] at q
            exact q
          · rw [if_neg (fun z => e6 z.2)] at q
            rw [decide_eq_true (by omega)]
            exact iteT ⟨.int a, rfl, q⟩
        · rw [if_neg (fun z => ec (Option.some.inj z.1))] at q
          rw [decide_eq_false ec]
          exact iteT (iteT ⟨.int a, rfl, q⟩)
    · have ge : ¬ b < (cp x).length := fun z => e1 (decide_eq_true z)
      rw [List.drop_eq_nil_of_le (by omega), span_nil] at he
      have eb : b = a + 1 + n := by omega
      rw [drop_get, ← eb, List.getElem?_eq_none (by omega), if_neg (fun z => nomatch z.1)] at q
      have nq : decide (V.int (b : Int) = V.int (x.length : Int)) = true := decide_eq_true (by rw [show (b : Int) = (x.length : Int) by omega])
      refine iteF ⟨.int b, rfl, .str x, rfl, x, rfl, most_line (by rw [← cp_len]; exact hl), rfl, _, rfl, ?_⟩
      rw [nq]
      exact iteT (iteT ⟨.int a, rfl, q⟩)

theorem ok_end {f fI fR fS : Addr} {fd fdI fdR fdS : FuncData} (F : Fun K "token_end" "token_end" sEnd f fd) (Z : Bare mg) (N : Names mg)
    (FI : Fun K "is_inner" "is_inner" sInner fI fdI) (bI : Binds K fdI ["sign"] []) (gI : mg "is_inner" = some (.ref fI))
    (FR : Fun K "run_end" "run_end" sRun fR fdR) (bR : Binds K fdR ["text", "at", "letters"] []) (gR : mg "run_end" = some (.ref fR))
    (FS : Fun K "string_end" "string_end" sStrEnd fS fdS) (bS : Binds K fdS ["text", "start"] []) (gS : mg "string_end" = some (.ref fS)) :
    FnOk P w K mg base CX0 3 f fd ["text", "start"] spEnd := by
  have GR : FnOk P w K mg base CX0 1 fR fdR ["text", "at", "letters"] spRun := ok_run FR Z
  have GS : FnOk P w K mg base CX0 2 fS fdS ["text", "start"] spStrE := ok_strE FS Z N FI bI gI
  obtain ⟨tq, gq⟩ := N.quo
  obtain ⟨ta, ga⟩ := N.let_
  obtain ⟨td, gd⟩ := N.dig
  obtain ⟨ts, gs⟩ := N.sig
  refine F.ok scEnd (fun vs H Q E h => ?_) (fun cdv A outer s H vs Q E hr h => ?_)
  · obtain ⟨x, a, rfl, _⟩ := h
    rfl
  · obtain ⟨x, a, rfl, ha, hl, q⟩ := h
    refine ⟨_, pss_cons (ps_set (i := 2) scEnd.nd rfl (.inl rfl) (pe_item_str (pv 0) (pv 1) (fun _ _ => rfl)))
      (pss_cons (ps_if (pt_cmpR op_in_sign (pv 2) (pe_glob (v := .str "{}[]():.,=+-*") rfl gs ⟨_, rfl⟩) (by with_unfolding_all rfl))
        (pss_one (ps_ret (pe_op op_add (pv 1) pe_int))) pss_nil)
      (pss_cons (ps_if (pt_cmpR op_in_sign (pv 2) (pe_glob (v := .str "abcdefghijklmnopqrstuvwxyz") rfl ga ⟨_, rfl⟩) (by with_unfolding_all rfl))
        (pss_one (ps_ret (pe_call GR (hr.mono (by decide)) (by rfl) gR FR.kp bR .nil pass0 (pa_cons (pv 0) (pa_cons (pv 1) (pa_cons (pe_glob (v := .str "abcdefghijklmnopqrstuvwxyz") rfl ga ⟨_, rfl⟩) pa_nil)))))) pss_nil)
      (pss_cons (ps_if (pt_cmpR op_in_sign (pv 2) (pe_glob (v := .str "0123456789") rfl gd ⟨_, rfl⟩) (by with_unfolding_all rfl))
        (pss_cons (ps_set (i := 3) scEnd.nd rfl (.inl rfl) (pe_call GR (hr.mono (by decide)) (by rfl) gR FR.kp bR .nil pass0 (pa_cons (pv 0) (pa_cons (pv 1) (pa_cons (pe_glob (v := .str "0123456789") rfl gd ⟨_, rfl⟩) pa_nil)))))
          (pss_one (ps_ret (pe_ifExp (PW.pt (pw_and (pt_cmpR op_eq (pv 2) pe_str (nomark _)) (pw_and1 (pt_cmpR op_gt (pv 3) (pe_op op_add (pv 1) pe_int) (nomark _)))))
            (pv 1) (pv 3))))) pss_nil)
      (pss_cons (ps_if (pt_cmpR op_eq (pv 2) (pe_glob (v := .str "\"") rfl gq ⟨_, rfl⟩) (nomark _))
        (pss_one (ps_ret (pe_call GS hr (by rfl) gS FS.kp bS .nil pass0 (pa_cons (pv 0) (pa_cons (pv 1) pa_nil))))) pss_nil)
      (pss_one (ps_ret (pv 1))))))), ?_⟩
    have hc : (cp x)[a]? = some ((cp x)[a]) := List.getElem?_eq_getElem ha
    generalize (cp x)[a] = c at hc
    have m63 := most63 hl
    have la : (a : Int) < x.length := by rw [← cp_len]; omega
    have hc' : x.cps[(a : Int).toNat]? = some c := by rw [cp_get]; exact hc
    have ed := drop_at hc
    rw [ed, tokL_cons] at q
    refine ⟨.str x, rfl, .int a, rfl, x, a, c, rfl, rfl, by omega, by omega, la, hc', ?_⟩
    refine ⟨.str ⟨#[c]⟩, rfl, c, _, rfl, rfl, _, rfl, ?_⟩
    rw [signs_is]
    cases h1 : isSign c with
    | true =>
      rw [if_pos h1] at q
      exact iteT ⟨.int a, rfl, _, _, rfl, rfl, q⟩
    | false =>
      rw [if_neg (by rw [h1]; decide)] at q
      refine iteF ⟨.str ⟨#[c]⟩, rfl, c, _, rfl, rfl, _, rfl, ?_⟩
      rw [letters_is]
      cases h2 : isLet c with
      | true =>
        rw [if_pos h2, ← ed] at q
        refine iteT ⟨.str x, rfl, .int a, rfl, x, _, a, rfl, by omega, hl, ?_⟩
        rw [show (fun c => decide (c ∈ cp ("abcdefghijklmnopqrstuvwxyz" : Str))) = isLet from funext letters_is]
        exact q
      | false =>
        rw [if_neg (by rw [h2]; decide)] at q
        refine iteF ⟨.str ⟨#[c]⟩, rfl, c, _, rfl, rfl, _, rfl, ?_⟩
        rw [digits_is]
        cases h3 : isDig c with
        | true =>
          rw [if_pos h3, ← ed] at q
          refine iteT ⟨.str x, rfl, .int a, rfl, x, _, a, rfl, by omega, hl, ?_⟩
          rw [show (fun c => decide (c ∈ cp ("0123456789" : Str))) = isDig from funext digits_is]
          generalize span isDig ((cp x).drop a) = k at q
          refine ⟨.str ⟨#[c]⟩, rfl, rfl, _, rfl, ?_⟩
          rw [dec_sign c 48 _ (by decide +kernel)]
          by_cases h4 : c = 48
          · rw [decide_eq_true h4]
            refine iteT ⟨_, rfl, .int a, rfl, _, _, rfl, rfl, _, _, rfl, rfl, _, rfl, ?_⟩
            by_cases h5 : 1 < k
            · rw [if_pos ⟨h4, h5⟩] at q
              rw [decide_eq_true (by omega)]
              exact iteT ⟨.int a, rfl, q⟩
            · rw [if_neg (fun z => h5 z.2)] at q
              rw [decide_eq_false (by omega)]
              exact iteF ⟨_, rfl, q⟩
          · rw [decide_eq_false h4]
            rw [if_neg (fun z => h4 z.1)] at q
            exact iteF (iteF ⟨_, rfl, q⟩)
        | false =>
          rw [if_neg (by rw [h3]; decide)] at q
          refine iteF ⟨.str ⟨#[c]⟩, rfl, rfl, _, rfl, ?_⟩
          rw [dec_sign c 34 _ (by decide +kernel)]
          by_cases h4 : c = 34
          · rw [if_pos h4] at q
            rw [decide_eq_true h4]
            refine iteT ⟨.str x, rfl, .int a, rfl, x, a, rfl, ha, hl, ?_⟩
            have e : strE (cp x) a = a + (if ((cp x).drop (a + 1))[span isIn ((cp x).drop (a + 1))]? = some 34 ∧ span isIn ((cp x).drop (a + 1)) ≤ 60 then span isIn ((cp x).drop (a + 1)) + 2 else 0) := by
              unfold strE
              split <;> rfl
            rw [e]
            exact q
          · rw [if_neg h4] at q
            rw [decide_eq_false h4]
            exact iteF ⟨.int a, rfl, q⟩
end
end K2

set_option maxHeartbeats 2000000
/-! `tokens`, as list(..) walks it. -/
namespace K2
open PySem PySem.Spec PyProof.Rows L2

/-- a pair of an index and a token stands at a place -/
def TokAt (H : Hp) (v : V) (e : Nat × List Nat) : Prop := ∃ t, v = .ref t ∧ H t = some (.tup [.int e.1, .str ⟨e.2.toArray⟩])
inductive Toks (H : Hp) : List V → List (Nat × List Nat) → Prop
  | nil : Toks H [] []
  | cons {v : V} {vs : List V} {e : Nat × List Nat} {es : List (Nat × List Nat)} : TokAt H v e → Toks H vs es → Toks H (v :: vs) (e :: es)
theorem TokAt.mono {H H' : Hp} {v : V} {e : Nat × List Nat} (x : TokAt H v e) (h : Same H H') : TokAt H' v e := by
  obtain ⟨t, ev, ht⟩ := x
  exact ⟨t, ev, h _ _ ht⟩
theorem Toks.mono {H H' : Hp} {vs : List V} {es : List (Nat × List Nat)} (x : Toks H vs es) (h : Same H H') : Toks H' vs es := by
  induction x with
  | nil => exact .nil
  | cons a _ ih => exact .cons (a.mono h) ih
theorem Toks.snoc {H : Hp} {vs : List V} {es : List (Nat × List Nat)} {v : V} {e : Nat × List Nat} (x : Toks H vs es) (y : TokAt H v e) : Toks H (vs ++ [v]) (es ++ [e]) := by
  induction x with
  | nil => exact .cons y .nil
  | cons a _ ih => exact .cons a ih
theorem Toks.length {H : Hp} {vs : List V} {es : List (Nat × List Nat)} (x : Toks H vs es) : vs.length = es.length := by
  induction x with
  | nil => rfl
  | cons a _ ih => simp [ih]
theorem Toks.get {H : Hp} {vs : List V} {es : List (Nat × List Nat)} (x : Toks H vs es) : ∀ {i : Nat} {v : V}, vs[i]? = some v → ∃ e, es[i]? = some e ∧ TokAt H v e := by
  induction x with
  | nil =>
    intro i v h
    simp at h
  | cons a _ ih =>
    intro i v h
    cases i with
    | zero =>
      cases h
      exact ⟨_, rfl, a⟩
    | succ i => exact ih (i := i) (by simpa using h)
theorem Toks.take {H : Hp} {vs : List V} {es : List (Nat × List Nat)} (x : Toks H vs es) : ∀ n, Toks H (vs.take n) (es.take n) := by
  induction x with
  | nil =>
    intro n
    simp only [List.take_nil]
    exact .nil
  | cons a _ ih =>
    intro n
    cases n with
    | zero => exact .nil
    | succ n => exact .cons a (ih n)
def tokD (e : Nat × List Nat) : PyData := .tuple [.int e.1, .str ⟨e.2.toArray⟩]
theorem TokAt.dp {K : PySem.W.Frag} {H : Hp} {v : V} {e : Nat × List Nat} (x : TokAt H v e) : Dp K H v (tokD e) := by
  obtain ⟨t, rfl, h⟩ := x
  exact .tup (SqT.of h) (.cons (.int _) (.cons (.str _) .nil))
theorem Toks.dp {K : PySem.W.Frag} {H : Hp} {vs : List V} {es : List (Nat × List Nat)} (x : Toks H vs es) : DpAll K H vs (es.map tokD) := by
  induction x with
  | nil => exact .nil
  | cons a _ ih => exact .cons a.dp ih

theorem scTok : GScope ["text", "start", "end"] ["text"] (defScope sTokens) := ⟨rfl, rfl, rfl, by decide +kernel, rfl, by decide +kernel, by decide +kernel⟩

def spGTok : SpG := fun vs H Q _ => ∃ x : Str, vs = [.str x] ∧ (cp x).length ≤ most ∧ ∀ ys H', Same H H' → Toks H' ys (scan 0 (cp x)) → Q ys H'

/-- a part of a text -/
theorem cut_is (x : Str) (a b : Nat) (h1 : a ≤ b) (h2 : b ≤ (cp x).length) : cutS x (some (a : Int)) (some (b : Int)) = ⟨(((cp x).drop a).take (b - a)).toArray⟩ := by
  have ll := cp_len x
  have ea : ∀ d : Nat, HT.sIx x.length d (some (a : Int)) = a := fun d => by rw [HT.sIx_nat]; omega
  have eb : ∀ d : Nat, HT.sIx x.length d (some (b : Int)) = b := fun d => by rw [HT.sIx_nat]; omega
  unfold cutS
  rw [ea, eb]

theorem skip_scan {pos : Nat} {l : List Nat} (h : tokL (l.drop (skip l)) = 0) : scan pos l = [] := scan_end h

section
variable {P : Program} {w : World} {K : PySem.W.Frag} {mg : Str → Option Value} {base : Heap}

theorem gfn_tokens {f fN fE : Addr} {fd fdN fdE : FuncData} (F : Fun K "tokens" "tokens" sTokens f fd) (Z : Bare mg)
    (FN : Fun K "next_start" "next_start" sNext fN fdN) (bN : Binds K fdN ["text", "at"] []) (gN : mg "next_start" = some (.ref fN))
    (GN : FnOk P w K mg base CX0 2 fN fdN ["text", "at"] spNext)
    (FE : Fun K "token_end" "token_end" sEnd fE fdE) (bE : Binds K fdE ["text", "start"] []) (gE : mg "token_end" = some (.ref fE))
    (GE : FnOk P w K mg base CX0 3 fE fdE ["text", "start"] spEnd) :
    GFn P w K mg base 4 f fd ["text"] spGTok := by
  obtain ⟨oc, od, kV, doc, pm, an, cdv, ct, osl, rfl, look, code⟩ := F.ex
  refine gfn_of look code scTok (fun vs H Q E h => ?_) (fun A outer s H vs Q E pn hr h => ?_)
  · obtain ⟨x, rfl, _⟩ := h
    rfl
  · obtain ⟨x, rfl, hl, q⟩ := h
    refine ⟨_, gss_cons (gs_ps (ps_set (i := 1) scTok.nd rfl (.inl rfl) (pe_call GN (hr.mono (by decide)) (by rfl) gN FN.kp bN .nil pass0 (pa_cons (pv 0) (pa_cons pe_int pa_nil)))))
      (gss_cons (gs_while owns_gcx (pt_cmpR op_lt (pv 1) (pe_callB call_len_str (by rfl) Z.len PySem.boot_len (pa_cons (pv 0) pa_nil)) (nomark _))
        (gss_cons (gs_ps (ps_set (i := 2) scTok.nd rfl (.inl rfl) (pe_call GE hr (by rfl) gE FE.kp bE .nil pass0 (pa_cons (pv 0) (pa_cons (pv 1) pa_nil)))))
        (gss_cons (gs_ps (ps_if (pt_cmpR op_eq (pv 2) (pv 1) (nomark _)) (pss_one ps_retN) pss_nil))
        (gss_cons (gs_yield (pe_tup (pa_cons (pv 1) (pa_cons (pe_slice sl_str (pv 0) (po_some (pv 1)) (po_some (pv 2))) pa_nil))))
        (gss_cons (gs_ps (ps_set (i := 1) scTok.nd rfl (.inl rfl) (pe_call GN (hr.mono (by decide)) (by rfl) gN FN.kp bN .nil pass0 (pa_cons (pv 0) (pa_cons (pv 2) pa_nil)))))
        gss_nil))))) gss_nil), ?_⟩
    obtain ⟨l, hll⟩ : ∃ l, cp x = l := ⟨_, rfl⟩
    have ll : x.length = l.length := by rw [← cp_len, hll]
    refine ⟨.str x, rfl, x, 0, rfl, Nat.zero_le _, hl, ?_⟩
    refine ⟨fun m ys σ H' => ∃ (p : Nat) (e : Option V) (done : List (Nat × List Nat)), m = l.length - p ∧ p ≤ l.length ∧ σ = [some (.str x), some (.int ((p + skip (l.drop p) : Nat) : Int)), e] ∧
      Same H H' ∧ Toks H' ys done ∧ done ++ scan p (l.drop p) = scan 0 l ∧ ys.length ≤ p, ⟨_, 0, none, [], rfl, Nat.zero_le _, by rw [hll]; rfl, fun _ _ e => e, .nil, rfl, Nat.le_refl _⟩, ?_⟩
    rintro m ys σ H1 ⟨p, e, done, rfl, hp, rfl, sm, tk, hs, hys⟩
    generalize hb : p + skip (l.drop p) = b
    have hsk : skip (l.drop p) ≤ (l.drop p).length := skip_len _
    rw [List.length_drop] at hsk
    have hbl : b ≤ l.length := by omega
    have em : (l.drop p).drop (skip (l.drop p)) = l.drop b := by rw [List.drop_drop, hb]
    refine ⟨.int b, rfl, .str x, rfl, x, rfl, most_line (by rw [← cp_len]; exact hl), _, _, rfl, rfl, _, rfl, ?_⟩
    rw [lt_dec, hll]
    refine ite2 (fun e1 => ?_) (fun e1 => ?_)
    · have lt : b < l.length := of_decide_eq_true e1
      have hl' : l.length ≤ most := hll ▸ hl
      have m24 : most < sizeLine := by decide
      refine ⟨fun ys' σ' H' => ∃ m', m' < l.length - p ∧ ∃ (p : Nat) (e : Option V) (done : List (Nat × List Nat)), m' = l.length - p ∧ p ≤ l.length ∧ σ' = [some (.str x), some (.int ((p + skip (l.drop p) : Nat) : Int)), e] ∧
        Same H H' ∧ Toks H' ys' done ∧ done ++ scan p (l.drop p) = scan 0 l ∧ ys'.length ≤ p, fun _ _ _ w => w, ?_⟩
      refine ⟨.str x, rfl, .int b, rfl, x, b, rfl, by rw [hll]; exact lt, hl, ?_⟩
      rw [hll]
      have tl := tokL_le (l.drop b)
      rw [List.length_drop] at tl
      refine ⟨_, rfl, .int b, rfl, rfl, _, rfl, ?_⟩
      by_cases z : tokL (l.drop b) = 0
      · rw [z, Nat.add_zero, decide_eq_true rfl]
        refine iteT ⟨rfl, q _ _ sm ?_⟩
        rw [scan_end (by rw [em]; exact z), List.append_nil] at hs
        rw [hll, ← hs]
        exact tk
      · have ne : decide (V.int ((b + tokL (l.drop b) : Nat) : Int) = V.int (b : Int)) = false := decide_eq_false (by intro w; have := V.int.inj w; omega)
        rw [ne]
        refine iteF ⟨Nat.lt_of_le_of_lt (by omega : ys.length ≤ most) m24, .int b, rfl, .str x, rfl, .int b, rfl, b, rfl, _, rfl, ((b + tokL (l.drop b) : Nat) : Int), rfl, x, rfl, most_line (by rw [← cp_len]; exact hl), by show 2 ≤ sizeLine; decide, fun t ht => ?_⟩
        refine ⟨.str x, rfl, _, rfl, x, _, rfl, by rw [hll]; omega, hl, ?_⟩
        rw [hll]
        have sm1 : Same H1 (upd H1 t (.tup [.int b, .str (cutS x (some (b : Int)) (some ((b + tokL (l.drop b) : Nat) : Int)))])) := same_upd ht
        refine ⟨l.length - (b + tokL (l.drop b)), by omega, b + tokL (l.drop b), _, done ++ [(b, (l.drop b).take (tokL (l.drop b)))], rfl, by omega, rfl, fun a o ea => sm1 a o (sm a o ea), ?_, ?_, ?_⟩
        · refine (tk.mono sm1).snoc ⟨t, rfl, ?_⟩
          rw [upd_same, cut_is x b _ (by omega) (by rw [hll]; omega), hll, show b + tokL (l.drop b) - b = tokL (l.drop b) by omega]
        · rw [scan_at em z, hb, List.drop_drop] at hs
          rw [List.append_assoc]
          exact hs
        · rw [List.length_append, List.length_singleton]
          omega
    · have ge : ¬ b < l.length := fun z => e1 (decide_eq_true z)
      refine q _ _ sm ?_
      rw [scan_end (by rw [em, List.drop_eq_nil_of_le (by omega)]; rfl), List.append_nil] at hs
      rw [hll, ← hs]
      exact tk
end
end K2

set_option maxHeartbeats 2000000
/-! tuple(g), list(g): of a generator def that never raises. -/
namespace K2
open PySem PySem.Spec PyProof.Rows L2 GenW

def never : XK := fun _ _ _ => False

theorem no_cx {P : Program} {w : World} {outer : List Env} {H : Hp} {sc : Shared} {e : Value} {s' : Shared} (h : CX P w outer H sc never e s') : False := by
  obtain ⟨a, B, H', cls, d, _, fl, _, _, _, _, _, hW⟩ := h
  exact hW

theorem collect_gen {P : Program} {w : World} {outer : List Env} {H : Hp} {sc s : Shared} {ex : List Addr} {Q : List V → Hp → Prop} {A : Around} {k : Nat} {u : Value} {Q' : List Value → Shared → Prop} {E : Value → Shared → Prop}
    (hr : Room (k + 2) A) (hfr : A.frames = some outer) (h : GMade P w k outer H sc ex Q never u s)
    (hQ : ∀ S s' acc c H' ys, s.heap.objs.size ≤ S → s'.heap.get? S = some (lstObj acc c) → Vals ys acc.toList → ys.length ≤ sizeLine → s'.os = sc.os → AllBare s'.gens → Un (frs outer) ex H H' sc.heap s'.heap → HOk P w H' s'.heap → H' S = none → Q ys H' → Q' acc.toList s') :
    wpAny (model P w) A (collect u) Q' E s := by
  obtain ⟨a, g, c, rfl, ha1, ha2, hg, hgs, hos, hb, hl, hkp, wake⟩ := h
  have hSa : s.heap.objs.size ≠ a := Nat.ne_of_gt ha2
  have hcl : cStatics < s.heap.objs.size := let ⟨_, hn, _⟩ := hl; hn.lt
  have hSc : s.heap.objs.size ≠ cStatics := Nat.ne_of_gt hcl
  unfold collect
  refine wpAny_bind (wpAny_runValue (codeAny_builtin F.entry_proto_collect ?_))
  rw [Around.under_plainId F.plain_proto_collect _]
  show wpAny _ A.in1 (newList [] >>= fun l => again (.builtin "list.__iadd__" ⟨[l, .ref a], []⟩)) _ _ s
  refine wpAny_bind (wpAny_newObj_type ?_)
  refine wpAny_pure ⟨plainId_quiet F.plain_list_iadd _, codeAny_builtin F.entry_list_iadd ?_⟩
  rw [Around.under_plainId F.plain_list_iadd _]
  show wpAny _ A.in1 (Builtin.List.listExtendWith (.ref s.heap.objs.size) (.ref a) (.ref s.heap.objs.size)) _ _ _
  have hS2 : (s.heap.push { cls := .type "list", data := .seq ([] : List Value).toArray }).get? s.heap.objs.size = some { cls := .type "list", data := .seq #[] 0 } := Heap.get?_push_size _ rfl
  unfold Builtin.List.listExtendWith
  have up : ∀ (h : Heap) (f : Obj → Obj), (∀ b o, s.heap.get? b = some o → h.get? b = some o) → ∀ b o, s.heap.get? b = some o → (h.update s.heap.objs.size f).get? b = some o := fun h f q b o e =>
    (Heap.get?_update_other _ _ (Ne.symm (Nat.ne_of_lt (Heap.lt_size e)))).trans (q b o e)
  have k2 : ∀ b o, s.heap.get? b = some o → (s.heap.push { cls := .type "list", data := .seq ([] : List Value).toArray }).get? b = some o := fun b o e => Heap.get?_push_of_some _ e
  have gty : ∀ {h : Heap}, (∀ b o, s.heap.get? b = some o → h.get? b = some o) → h.IsGen a g := fun {h} q => hg.keeps q
  refine wpAny_bind (wpAny_typeOf (Heap.IsGen.typeIs (s := { s with heap := _ }) (gty k2)) ?_)
  have h1 : Builtin.List.listSameRef (.ref s.heap.objs.size) (.ref a) = false := by simp [Builtin.List.listSameRef, hSa]
  have h2 : (Value.type "generator" == Value.type "list") = false := by decide
  have h3 : (Value.type "generator" == Value.type "tuple") = false := by decide
  simp only [h1, h2, h3, Bool.or_false, Bool.false_eq_true, if_false]
  refine wpAny_bind (wpAny_pyIter_gen (s := { s with heap := _ }) (gty k2) ?_)
  refine wpAny_bind (wpAny_holding ?_)
  unfold Builtin.List.listLengthHint
  refine wpAny_bind (wpAny_specialOf (Heap.IsGen.typeIs (s := { s with heap := _ }) (gty k2)) F.gen_no_len ?_)
  show wpAny _ A.in1 (specialOf (Value.ref a) (Str.ofString "__length_hint__") >>= _) _ _ _
  refine wpAny_bind (wpAny_specialOf (Heap.IsGen.typeIs (s := { s with heap := _ }) (gty k2)) F.gen_no_hint ?_)
  refine wpAny_pure ?_
  show wpAny _ A.in1 (rule "list.extend.makes-room" >>= fun _ => Builtin.List.listTouch (.ref s.heap.objs.size) >>= fun _ =>
    again (.builtin "list.extend.loop" ⟨[.ref s.heap.objs.size, .ref a, .ref s.heap.objs.size], []⟩)) _ _ _
  refine wpAny_bind (wpAny_rule ?_)
  refine wpAny_bind ?_
  show wpAny _ A.in1 (updateSeq s.heap.objs.size (·.push .none) >>= fun _ => updateSeq s.heap.objs.size (·.pop)) _ _ _
  refine wpAny_bind (wpAny_updateSeq hS2 rfl ?_)
  have hS3 := Heap.get?_update_self (Obj.mapSeq (·.push Value.none)) hS2 rfl
  refine wpAny_updateSeq (hz := by seq_fits) hS3 rfl ?_
  have hS4 := Heap.get?_update_self (Obj.mapSeq (·.pop)) hS3 rfl
  have k4 := up _ (Obj.mapSeq (·.pop)) (up _ (Obj.mapSeq (·.push Value.none)) k2)
  refine wpAny_pure ⟨plainId_quiet F.plain_extend_loop _, ?_⟩
  refine drain (P := P) (w := w) (outer := outer) (H := H) (sc := sc) (ex := ex) (Q := Q) (EX := never) (A := A) (g := g) hr.hd (by have := hr.dp; show A.depth < _; omega) hSa hSc
    (fun s' acc c H' ys q1 q2 q3 q4 q5 q6 q7 q8 q9 => ?_) (fun e s' hc => (no_cx hc).elim)
    sizeLine _ (gty k4) (hl.keeps k4) ⟨_, hgs, rfl, ?_⟩
  · show wpAny _ A (load s.heap.objs.size >>= _) _ _ _
    exact wpAny_bind (wpAny_load q1 (wpAny_pure (hQ _ s' acc c H' ys (Nat.le_refl _) q1 q2 q3 q4 q5 q6 q7 q8 q9)))
  refine wake _ _ _ ⟨hr.hd, ?_, ?_⟩ hfr (Nat.le_refl _) k4 ⟨_, hS4⟩ hos (allBare_setGen (s := { s with heap := _ }) hb rfl)
  · have := hr.dp
    show A.depth + 3 * k + 5 < _
    omega
  · have := hr.un
    show A.units + 1 + 1 + 16 * k + 200 < _
    omega

theorem call_tuple_gen {P : Program} {w : World} {outer : List Env} {H : Hp} {sc s : Shared} {ex : List Addr} {Q : List V → Hp → Prop} {A : Around} {k : Nat} {u : Value} {Q' : Value → Shared → Prop} {E : Value → Shared → Prop}
    (hr : Room (k + 3) A) (hfr : A.frames = some outer) (h : GMade P w k outer H sc ex Q never u s)
    (hQ : ∀ (S : Addr) (s' : Shared) (acc : Array Value) (c : Nat) (H' : Hp) (ys : List V), s.heap.objs.size ≤ S → s'.heap.get? S = some (lstObj acc c) → Vals ys acc.toList → ys.length ≤ sizeLine → s'.os = sc.os → AllBare s'.gens → Un (frs outer) ex H H' sc.heap s'.heap → HOk P w H' s'.heap → H' S = none → Q ys H' →
      Q' (.ref s'.heap.objs.size) { s' with heap := s'.heap.push { cls := .type "tuple", data := .seq acc } }) :
    wpAny (model P w) A (call (.type "tuple") [u]) Q' E s := by
  obtain ⟨a, g, rfl, hg⟩ : ∃ a g, u = .ref a ∧ s.heap.IsGen a g := by
    obtain ⟨a, g, c, rfl, _, _, hg, _⟩ := id h
    exact ⟨a, g, rfl, hg⟩
  refine callType_codes (Q₁ := fun obj s₁ => s₁.TypeIs obj "tuple" ∧ Q' obj s₁) F.called_tuple (F.typeCall_tuple_1 _) F.entry_object_init ?_ fun obj s₁ h₁ => ?_
  · refine codeAny_of_tree ?_
    show wpAny _ A.in1.in1 (do checkBuiltinCall "tuple.__new__" ⟨[.type "tuple", .ref a], []⟩; again (.builtin "tuple.__new__" ⟨[.type "tuple", .ref a], []⟩)) _ _ s
    refine wpAny_bind (wpAny_of_eq (F.newCall_tuple_1 _) (wpAny_pure ⟨plainId_quiet F.plain_tuple_new _, codeAny_builtin F.entry_tuple_new ?_⟩))
    rw [Around.under_plainId F.plain_tuple_new _]
    have hsub := sub_tuple_self
    have hinit := init_tuple_lookup
    have hmh := madeHere_tuple
    have hTI : s.TypeIs (.ref a) "generator" := hg.typeIs
    have hr2 : Room (k + 2) A.in1.in1 := ⟨hr.hd, by have := hr.dp; show A.depth + 3 * (k + 2) + 5 < _; omega, by have := hr.un; show A.units + 1 + 1 + 16 * (k + 2) + 200 < _; omega⟩
    have hfr2 : A.in1.in1.frames = some outer := hfr
    wp_walk using wpAny_typeOf hTI, collect_gen (A := A.in1.in1) hr2 hfr2 h
    intro S s' acc c H' ys q0 q1 q2 q3 q4 q5 q6 q7 q8 q9
    show wpAny _ _ (Builtin.Tuple.tupleExact acc.toList.toArray >>= fun v => ret v) _ _ _
    unfold Builtin.Tuple.tupleExact
    have la : acc.size ≤ sizeLine := by
      have := q2.length
      have e2 : acc.toList.length = acc.size := Array.length_toList
      omega
    refine wpAny_bind (wpAny_newObj_type ?_ (by show acc.toList.toArray.size ≤ sizeLine; simp only [Array.toArray_toList]; exact la))
    refine wpAny_pure ?_
    have e : acc.toList.toArray = acc := by simp
    rw [e]
    exact ⟨⟨_, Heap.get?_push_size _ rfl, rfl⟩, hQ S s' acc c H' ys q0 q1 q2 q3 q4 q5 q6 q7 q8 q9⟩
  · exact ⟨h₁.1, F.args_object_init_2 obj _, object_init_meets F.called_tuple.init.lookup F.called_tuple.made (by decide) P w A.in1 _ s₁ ⟨h₁.1, rfl, h₁.2⟩⟩

section
variable {X : Cx} {k : Nat} {p pos : Pos}
theorem passes_never : Passes (CX X.prog X.w) X never := by
  intro pins σ H s e s' I hc
  exact (no_cx hc).elim
theorem noStop_never {K : PySem.W.Frag} : NoStop K never := by
  intro cls d H h
  exact h.elim
def tTupG (tg : TGen) : TE := fun σ H Q => tg σ H fun out H2 => ∀ S p, H2 S = none → (upd H2 S (.lst out)) p = none → Q (.ref p) (upd (upd H2 S (.lst out)) p (.tup out))
/-- tuple(g) -/
theorem pe_tupG {e : Expr} {tg : TGen} (h : PGen X k e tg never) (hr : Room (k + 3) X.A) (hg : Gl X "tuple") (hmg : X.mg "tuple" = none)
    (he : starEach [e] X.env = (false, eval e X.env) :: starEach [] X.env := by rfl) : PE X (.Call (.Name "tuple" p) [e] [] pos) (tTupG tg) := by
  refine ⟨fun pins s σ H Q I hq => ?_⟩
  refine wpAny_Call_Name_kw (ld_blt I hg hmg boot_tuple ?_ (by decide) (by decide))
  refine PyProof.Rows.callWith_type1 ?_ he rfl
  rw [he]
  show wpAny _ _ (spliced ((false, eval e X.env) :: backTo pos (starEach [] X.env))) _ _ s
  refine Calls.spliced_cons (thn (h.run pins s σ H _ I hq) fun u s1 ⟨H1, sc, ex, I1, hex, hG⟩ => ?_)
  refine Calls.spliced_nil ?_
  have hsz : sc.heap.objs.size ≤ s1.heap.objs.size := by
    obtain ⟨a, g, c, _, h1, h2, _⟩ := hG
    exact Nat.le_trans h1 (Nat.le_of_lt h2)
  refine call_tuple_gen hr I1.ok.frames hG (fun S s' acc c H' ys q0 q1 q2 hl q3 q4 q5 q6 q7 q8 => ?_)
  have I2 := I1.drained (Nat.le_trans hsz q0) hl q1 q2 hex q3 q4 q5 q6 q7
  have new : (upd H' S (.lst ys)) s'.heap.objs.size = none := I2.hok.fresh (Nat.le_refl _)
  refine ⟨.ref s'.heap.objs.size, upd (upd H' S (.lst ys)) s'.heap.objs.size (.tup ys),
    I2.laid (t' := s'.toks) (fun b u e => Heap.get?_push_of_some _ e) (Nat.le_refl _) ?_, rfl, q8 S _ q7 new⟩
  have ea : (Array.toList acc).toArray = acc := by simp
  refine (show ObjOk X.prog X.w _ _ _ (.tup ys) from ⟨hl, acc.toList, q2, ?_⟩)
  rw [ea]
  exact IsTup.new _ _
end
end K2

set_option maxHeartbeats 2000000
/-! What stays in the heap; lists of values one by one. -/
namespace V5
open PySem PySem.Spec PyProof.Rows L2 K2

/-- one by one -/
inductive A2 {α β : Type} (R : α → β → Prop) : List α → List β → Prop
  | nil : A2 R [] []
  | cons {a : α} {b : β} {as : List α} {bs : List β} : R a b → A2 R as bs → A2 R (a :: as) (b :: bs)
section
variable {α β : Type} {R S : α → β → Prop}
theorem A2.imp (h : ∀ a b, R a b → S a b) : ∀ {as : List α} {bs : List β}, A2 R as bs → A2 S as bs
  | _, _, .nil => .nil
  | _, _, .cons x r => .cons (h _ _ x) (r.imp h)
theorem A2.snoc : ∀ {as : List α} {bs : List β} {a : α} {b : β}, A2 R as bs → R a b → A2 R (as ++ [a]) (bs ++ [b])
  | _, _, _, _, .nil, x => .cons x .nil
  | _, _, _, _, .cons y r, x => .cons y (r.snoc x)
theorem A2.len : ∀ {as : List α} {bs : List β}, A2 R as bs → as.length = bs.length
  | _, _, .nil => rfl
  | _, _, .cons _ r => congrArg Nat.succ r.len
theorem A2.get : ∀ {as : List α} {bs : List β} {i : Nat} {b : β}, A2 R as bs → bs[i]? = some b → ∃ a, as[i]? = some a ∧ R a b
  | _, _, _, _, .nil, h => by simp at h
  | _, _, 0, _, .cons x r, h => by
    cases h
    exact ⟨_, rfl, x⟩
  | _, _, i + 1, _, .cons x r, h => A2.get r (i := i) (by simpa using h)
theorem A2.getL : ∀ {as : List α} {bs : List β} {i : Nat} {a : α}, A2 R as bs → as[i]? = some a → ∃ b, bs[i]? = some b ∧ R a b
  | _, _, _, _, .nil, h => by simp at h
  | _, _, 0, _, .cons x r, h => by
    cases h
    exact ⟨_, rfl, x⟩
  | _, _, i + 1, _, .cons x r, h => A2.getL r (i := i) (by simpa using h)
theorem A2.memL : ∀ {as : List α} {bs : List β} {a : α}, A2 R as bs → a ∈ as → ∃ b, b ∈ bs ∧ R a b
  | _, _, _, .cons x r, h => by
    rcases List.mem_cons.mp h with rfl | h
    · exact ⟨_, List.mem_cons_self, x⟩
    · obtain ⟨b, hb, z⟩ := r.memL h
      exact ⟨b, List.mem_cons_of_mem _ hb, z⟩
theorem A2.memR : ∀ {as : List α} {bs : List β} {b : β}, A2 R as bs → b ∈ bs → ∃ a, a ∈ as ∧ R a b
  | _, _, _, .cons x r, h => by
    rcases List.mem_cons.mp h with rfl | h
    · exact ⟨_, List.mem_cons_self, x⟩
    · obtain ⟨a, ha, z⟩ := r.memR h
      exact ⟨a, List.mem_cons_of_mem _ ha, z⟩
theorem A2.app : ∀ {as as2 : List α} {bs bs2 : List β}, A2 R as bs → A2 R as2 bs2 → A2 R (as ++ as2) (bs ++ bs2)
  | _, _, _, _, .nil, y => y
  | _, _, _, _, .cons x r, y => .cons x (r.app y)
theorem A2.rev : ∀ {as : List α} {bs : List β}, A2 R as bs → A2 R as.reverse bs.reverse
  | _, _, .nil => .nil
  | _, _, .cons x r => by
    rw [List.reverse_cons, List.reverse_cons]
    exact r.rev.snoc x
end

/-! ### what stays: all but the parser's object and the dicts with tuples for keys -/
def stays : HO → Bool
  | .ins _ _ fs => (fs.lookup ("end_word" : Str)).isNone
  | .dT _ => false
  | _ => true
def St (H H' : Hp) : Prop := ∀ b o, H b = some o → ∃ u, H' b = some u ∧ (stays o = true → u = o)
theorem St.at {H H' : Hp} (s : St H H') {b : Addr} {o : HO} (h : H b = some o) (z : stays o = true) : H' b = some o := by
  obtain ⟨u, e, q⟩ := s b o h
  rw [e, q z]
theorem St.nn {H H' : Hp} (s : St H H') {b : Addr} (h : H' b = none) : H b = none := by
  cases e : H b with
  | none => rfl
  | some o =>
    obtain ⟨u, e2, _⟩ := s b o e
    rw [h] at e2
    cases e2
theorem St.refl (H : Hp) : St H H := fun _ o e => ⟨o, e, fun _ => rfl⟩
theorem St.trans {H H1 H2 : Hp} (x : St H H1) (y : St H1 H2) : St H H2 := fun b o e => by
  obtain ⟨u, e1, q1⟩ := x b o e
  obtain ⟨v, e2, q2⟩ := y b u e1
  refine ⟨v, e2, fun z => ?_⟩
  have z1 := q1 z
  subst z1
  exact q2 z
theorem St.same {H H' : Hp} (x : Same H H') : St H H' := fun b o e => ⟨o, x b o e, fun _ => rfl⟩
theorem Same.tr {H H1 H2 : Hp} (x : Same H H1) (y : Same H1 H2) : Same H H2 := fun b o e => y b o (x b o e)
theorem Same.rf (H : Hp) : Same H H := fun _ _ e => e
theorem St.updP {H : Hp} {p : Addr} {o u : HO} (h : H p = some o) (hs : stays o = false) : St H (upd H p u) := fun b v e => by
  by_cases n : b = p
  · subst n
    rw [h] at e
    cases e
    exact ⟨u, upd_same, fun z => by rw [hs] at z; cases z⟩
  · exact ⟨v, (upd_ne n).trans e, fun _ => rfl⟩
/-- an object that is none of H's is changed -/
theorem St.own {H H1 : Hp} {l : Addr} {o : HO} (s : St H H1) (n : H l = none) : St H (upd H1 l o) := fun b u e => by
  rw [upd_ne (ne_of_none e n)]
  exact s b u e
/-- what is new since H -/
def nw (H H' : Hp) : Hp := fun b => match H b with
  | none => H' b
  | some _ => none
theorem nw_at {H H' : Hp} {b : Addr} {o : HO} (h : H b = none) (e : H' b = some o) : nw H H' b = some o := by
  unfold nw
  rw [h]
  exact e
theorem nw_of {H H' : Hp} {b : Addr} {o : HO} (e : nw H H' b = some o) : H b = none ∧ H' b = some o := by
  unfold nw at e
  cases z : H b with
  | none =>
    rw [z] at e
    exact ⟨rfl, e⟩
  | some u =>
    rw [z] at e
    cases e
theorem nw_same {H H' : Hp} : Same (nw H H') H' := fun _ _ e => (nw_of e).2
/-- what is tracked stays tracked -/
def Tr (H H' : Hp) : Prop := ∀ b, H' b = none → H b = none
theorem St.tr {H H' : Hp} (s : St H H') : Tr H H' := fun _ e => s.nn e
theorem Tr.refl (H : Hp) : Tr H H := fun _ e => e
theorem Tr.trans {H H1 H2 : Hp} (x : Tr H H1) (y : Tr H1 H2) : Tr H H2 := fun b e => x b (y b e)
theorem Tr.put {H H1 : Hp} {l : Addr} {o : HO} (x : Tr H H1) : Tr H (upd H1 l o) := fun b e => by
  by_cases n : b = l
  · subst n
    rw [upd_same] at e
    cases e
  · rw [upd_ne n] at e
    exact x b e
theorem nw_st {H H1 H2 H3 : Hp} (x : Tr H H1) (y : St H2 H3) : St (nw H1 H2) (nw H H3) := fun b o e => by
  obtain ⟨e1, e2⟩ := nw_of e
  obtain ⟨u, e3, q⟩ := y b o e2
  exact ⟨u, nw_at (x b e1) e3, q⟩
/-- a list of one's own is changed: what is new since it was made stays -/
theorem nw_own {H H1 : Hp} {l : Addr} {o u : HO} (h : H l = some u) : nw H (upd H1 l o) = nw H H1 := by
  funext b
  unfold nw
  cases z : H b with
  | some _ => rfl
  | none =>
    show upd H1 l o b = H1 b
    exact upd_ne (by rintro rfl; rw [h] at z; cases z)
/-- pointwise all but one -/
def But (p : Addr) (H H' : Hp) : Prop := ∀ b, b ≠ p → H' b = H b
theorem But.upd {p : Addr} {H : Hp} {o : HO} : But p H (upd H p o) := fun _ n => upd_ne n
theorem But.trans {p : Addr} {H H1 H2 : Hp} (x : But p H H1) (y : But p H1 H2) : But p H H2 := fun b n => (y b n).trans (x b n)

/-! ### instances -/
theorem putF_new {f : Str} {v : V} : ∀ {fs : List (Str × V)}, (∀ q ∈ fs, q.1 ≠ f) → putF f v fs = fs ++ [(f, v)]
  | [], _ => rfl
  | (g, x) :: r, h => by
    show (if g = f then _ else (g, x) :: putF f v r) = _
    rw [if_neg (h (g, x) List.mem_cons_self), putF_new fun q hq => h q (List.mem_cons_of_mem _ hq)]
    rfl
/-- a class's __init__ that leaves the fields g us -/
def spI (C : Addr) (n : Nat) (g : List V → List (Str × V)) : Sp := fun vs H Q _ => ∃ p dx us, vs = .ref p :: us ∧ us.length = n ∧ H p = some (.ins C dx []) ∧
  ∀ H', But p H H' → H' p = some (.ins C dx (g us)) → Q .non H'
/-- what a new instance is -/
theorem make_of {C : Addr} {vs : List V} {sp : Sp} {fl : List (Str × V)} {H1 : Hp} {Q : VK} {E : XK}
    (h : ∀ p dx H, H p = some (.ins C dx []) → Same H1 H → ∀ Q' : VK, (∀ H', But p H H' → H' p = some (.ins C dx fl) → Q' .non H') → sp (.ref p :: vs) H Q' E)
    (q : ∀ x dx H', Same H1 H' → H1 x = none → H' x = some (.ins C dx fl) → Q (.ref x) H') :
    ∀ x dx, H1 x = none → H1 dx = none → dx ≠ x → sp (.ref x :: (vs ++ [])) (upd (upd H1 dx (.own x)) x (.ins C dx [])) (fun v H2 => v = .non ∧ Q (.ref x) H2) E := by
  intro x dx hx hdx ne
  rw [List.append_nil]
  have sm : Same H1 (upd (upd H1 dx (.own x)) x (.ins C dx [])) := fun b o e => by
    rw [upd_ne (ne_of_none e hx), upd_ne (ne_of_none e hdx)]
    exact e
  refine h x dx _ upd_same sm _ fun H' k e => ⟨rfl, q x dx H' (fun b o eb => ?_) hx e⟩
  rw [k b (ne_of_none eb hx)]
  exact sm b o eb
theorem same_new {H : Hp} {p : Addr} {o : HO} (h : H p = none) : Same H (upd H p o) := same_upd h
end V5

set_option maxHeartbeats 2000000
/-! The trees of files, how they stand in the heap. -/
namespace V5
open PySem PySem.Spec PyProof.Rows L2 K2

structure Mk where
  i : Nat
  n : Str
inductive Vl where
  | lit (i n : Nat)
  | use (t : Mk)
  | loop (it st t : Mk)
structure En where
  m : Mk
  v : Vl
structure Bo where
  i : Nat
  es : List En
structure Ow where
  m : Mk
  par : Option Mk
  b : Bo
structure Co where
  m : Mk
  k : Str
structure Sk where
  m : Mk
  cs : List Co
inductive De where
  | ow (o : Ow)
  | sk (s : Sk)
structure Fi where
  f : Str
  im : List Mk
  ds : List De
def De.m : De → Mk
  | .ow o => o.m
  | .sk s => s.m

section
variable (K : PySem.W.Frag)
abbrev cMark : Addr := He.ga K "Mark"
abbrev cFileTree : Addr := He.ga K "FileTree"
abbrev cOwner : Addr := He.ga K "Owner"
abbrev cStock : Addr := He.ga K "Stock"
abbrev cColumn : Addr := He.ga K "Column"
abbrev cBody : Addr := He.ga K "Body"
abbrev cEntry : Addr := He.ga K "Entry"
abbrev cLiteral : Addr := He.ga K "Literal"
abbrev cRecord : Addr := He.ga K "Record"
abbrev cLoop : Addr := He.ga K "Loop"
abbrev cChoice : Addr := He.ga K "Choice"
abbrev cTerm : Addr := He.ga K "Term"
abbrev cParser : Addr := He.ga K "Parser"
abbrev cSources : Addr := He.ga K "Sources"
abbrev cGiven : Addr := He.ga K "Given"
abbrev cKinds : Addr := He.ga K "Kinds"
abbrev cProject : Addr := He.ga K "Project"
end

/-- the dict of a body's entries: the first of a name counts -/
def nmd (ps : List (V × Str)) : List (Key × V) := ps.reverse.foldl (fun k p => putK k (.inr p.2) p.1) []

abbrev fMark (i n : V) : List (Str × V) := [("index", i), ("name", n)]
abbrev fLit (i n : V) : List (Str × V) := [("index", i), ("worth", n)]
abbrev fRec (t b : V) : List (Str × V) := [("template", t), ("body", b)]
abbrev fLoop (a s w t b : V) : List (Str × V) := [("item", a), ("stock", s), ("where", w), ("template", t), ("body", b)]
abbrev fEnt (i n h v : V) : List (Str × V) := [("index", i), ("name", n), ("hidden", h), ("value", v)]
abbrev fBody (i d e n : V) : List (Str × V) := [("index", i), ("declaring", d), ("entries", e), ("named", n)]
abbrev fOwn (f i n p b : V) : List (Str × V) := [("file", f), ("index", i), ("name", n), ("parent", p), ("body", b)]
abbrev fCol (i n k : V) : List (Str × V) := [("index", i), ("name", n), ("kind", k)]
abbrev fStk (f i n c g : V) : List (Str × V) := [("file", f), ("index", i), ("name", n), ("columns", c), ("goods", g)]
abbrev fTree (n i d t : V) : List (Str × V) := [("name", n), ("imports", i), ("declared", d), ("document", t)]

section
variable (K : PySem.W.Frag) (H : Hp)
def RMk (v : V) (m : Mk) : Prop := ∃ p dx, v = .ref p ∧ H p = some (.ins (cMark K) dx (fMark (.int m.i) (.str m.n)))
def RVl (v : V) : Vl → Prop
  | .lit i n => ∃ p dx, v = .ref p ∧ H p = some (.ins (cLiteral K) dx (fLit (.int i) (.int n)))
  | .use t => ∃ p dx tv, v = .ref p ∧ H p = some (.ins (cRecord K) dx (fRec tv .non)) ∧ RMk K H tv t
  | .loop it st t => ∃ p dx iv sv tv, v = .ref p ∧ H p = some (.ins (cLoop K) dx (fLoop iv sv .non tv .non)) ∧ RMk K H iv it ∧ RMk K H sv st ∧ RMk K H tv t
def REn (v : V) (e : En) : Prop := ∃ p dx vv, v = .ref p ∧ H p = some (.ins (cEntry K) dx (fEnt (.int e.m.i) (.str e.m.n) (.bl false) vv)) ∧ RVl K H vv e.v
def RBo (d : Bool) (v : V) (b : Bo) : Prop := ∃ p dx l nd evs, v = .ref p ∧ H p = some (.ins (cBody K) dx (fBody (.int b.i) (.bl d) (.ref l) (.ref nd))) ∧
  H l = some (.lst evs) ∧ A2 (REn K H) evs b.es ∧ H nd = some (.dK (nmd (evs.zip (b.es.map fun e => e.m.n))))
def RPar (v : V) : Option Mk → Prop
  | none => v = .non
  | some m => RMk K H v m
def ROw (f : Str) (v : V) (o : Ow) : Prop := ∃ p dx pv bv, v = .ref p ∧ H p = some (.ins (cOwner K) dx (fOwn (.str f) (.int o.m.i) (.str o.m.n) pv bv)) ∧
  RPar K H pv o.par ∧ RBo K H o.par.isNone bv o.b
def RCo (v : V) (c : Co) : Prop := ∃ p dx, v = .ref p ∧ H p = some (.ins (cColumn K) dx (fCol (.int c.m.i) (.str c.m.n) (.str c.k)))
def RSk (f : Str) (v : V) (s : Sk) : Prop := ∃ p dx lc lg cvs, v = .ref p ∧ H p = some (.ins (cStock K) dx (fStk (.str f) (.int s.m.i) (.str s.m.n) (.ref lc) (.ref lg))) ∧
  H lc = some (.lst cvs) ∧ A2 (RCo K H) cvs s.cs ∧ H lg = some (.lst [])
def RDe (f : Str) (v : V) : De → Prop
  | .ow o => ROw K H f v o
  | .sk s => RSk K H f v s
def RFi (v : V) (t : Fi) : Prop := ∃ p dx li ld ivs dvs, v = .ref p ∧ H p = some (.ins (cFileTree K) dx (fTree (.str t.f) (.ref li) (.ref ld) .non)) ∧
  H li = some (.lst ivs) ∧ A2 (RMk K H) ivs t.im ∧ H ld = some (.lst dvs) ∧ A2 (RDe K H t.f) dvs t.ds
end
section
variable {K : PySem.W.Frag} {H H' : Hp}
theorem RMk.st (s : St H H') {v : V} {m : Mk} : RMk K H v m → RMk K H' v m := fun ⟨p, dx, e, h⟩ => ⟨p, dx, e, s.at h rfl⟩
theorem RVl.st (s : St H H') {v : V} {m : Vl} (h : RVl K H v m) : RVl K H' v m := by
  cases m with
  | lit i n =>
    obtain ⟨p, dx, e, h⟩ := h
    exact ⟨p, dx, e, s.at h rfl⟩
  | use t =>
    obtain ⟨p, dx, tv, e, h, r⟩ := h
    exact ⟨p, dx, tv, e, s.at h rfl, r.st s⟩
  | loop a b c =>
    obtain ⟨p, dx, iv, sv, tv, e, h, r1, r2, r3⟩ := h
    exact ⟨p, dx, iv, sv, tv, e, s.at h rfl, r1.st s, r2.st s, r3.st s⟩
theorem REn.st (s : St H H') {v : V} {m : En} : REn K H v m → REn K H' v m := fun ⟨p, dx, vv, e, h, r⟩ => ⟨p, dx, vv, e, s.at h rfl, r.st s⟩
theorem RBo.st (s : St H H') {d : Bool} {v : V} {m : Bo} : RBo K H d v m → RBo K H' d v m := fun ⟨p, dx, l, nd, evs, e, h, hl, r, hn⟩ =>
  ⟨p, dx, l, nd, evs, e, s.at h rfl, s.at hl rfl, r.imp fun _ _ x => x.st s, s.at hn rfl⟩
theorem RPar.st (s : St H H') {v : V} {m : Option Mk} (h : RPar K H v m) : RPar K H' v m := by
  cases m with
  | none => exact h
  | some m => exact RMk.st s h
theorem ROw.st (s : St H H') {f : Str} {v : V} {m : Ow} : ROw K H f v m → ROw K H' f v m := fun ⟨p, dx, pv, bv, e, h, r1, r2⟩ => ⟨p, dx, pv, bv, e, s.at h rfl, r1.st s, r2.st s⟩
theorem RCo.st (s : St H H') {v : V} {m : Co} : RCo K H v m → RCo K H' v m := fun ⟨p, dx, e, h⟩ => ⟨p, dx, e, s.at h rfl⟩
theorem RSk.st (s : St H H') {f : Str} {v : V} {m : Sk} : RSk K H f v m → RSk K H' f v m := fun ⟨p, dx, lc, lg, cvs, e, h, h1, r, h2⟩ =>
  ⟨p, dx, lc, lg, cvs, e, s.at h rfl, s.at h1 rfl, r.imp fun _ _ x => x.st s, s.at h2 rfl⟩
theorem RDe.st (s : St H H') {f : Str} {v : V} {m : De} (h : RDe K H f v m) : RDe K H' f v m := by
  cases m with
  | ow o => exact ROw.st s h
  | sk o => exact RSk.st s h
theorem RFi.st (s : St H H') {v : V} {m : Fi} : RFi K H v m → RFi K H' v m := fun ⟨p, dx, li, ld, ivs, dvs, e, h, h1, r1, h2, r2⟩ =>
  ⟨p, dx, li, ld, ivs, dvs, e, s.at h rfl, s.at h1 rfl, r1.imp fun _ _ x => x.st s, s.at h2 rfl, r2.imp fun _ _ x => x.st s⟩
end

/-! ### the parser: L is left to read -/
abbrev Tk : Type := Nat × Str
def TkAt (H : Hp) (v : V) (t : Tk) : Prop := ∃ q, v = .ref q ∧ H q = some (.tup [.int t.1, .str t.2])
abbrev fPar (f l w a : V) : List (Str × V) := [("file", f), ("found", l), ("end_word", w), ("at", a)]
/-- what a parser never changes: its file, its dict's place, its tokens -/
structure Pg where
  f : Str
  dx : Addr
  l : Addr
  vs : List V
  ts : List Tk
def Par (K : PySem.W.Frag) (H : Hp) (p : Addr) (g : Pg) (L : List Tk) : Prop := ∃ a, H p = some (.ins (cParser K) g.dx (fPar (.str g.f) (.ref g.l) (.str "form") (.int ((a : Nat) : Int)))) ∧
  H g.l = some (.lst g.vs) ∧ A2 (TkAt H) g.vs g.ts ∧ g.ts.drop a = L ∧ a ≤ g.ts.length ∧ g.ts.length < 2 ^ 20
end V5

set_option maxHeartbeats 2000000
/-! The __init__ of plain classes. Written by gen_init.py. -/
namespace V5
open PySem PySem.Spec PyProof.Rows L2 K2
section
variable {P : Program} {w : World} {K : PySem.W.Frag} {mg : Str → Option Value} {base : Heap}
def spMark (K : PySem.W.Frag) : Sp := fun vs H Q _ => ∃ (p dx : Addr) (x0 : V) (x1 : V), vs = [.ref p, x0, x1] ∧ H p = some (.ins (cMark K) dx []) ∧ ∀ H', But p H H' → H' p = some (.ins (cMark K) dx (fMark x0 x1)) → Q .non H'
theorem ok_Mark (E : Env K mg) : FnOk P w K mg base CX0 1 (f_Mark___init__ K) (fd_Mark___init__ K) ["self", "index", "name"] (spMark K) := by
  refine E.F_Mark___init__.ok sc_Mark___init__ (fun vs H Q E h => ?_) (fun cdv A outer s H vs Q E1 hr h => ?_)
  · obtain ⟨p, dx, x0, x1, rfl, _⟩ := h
    rfl
  · obtain ⟨p, dx, x0, x1, rfl, hp, q⟩ := h
    refine ⟨_, pss_cons (ps_fld (pv 0) (pv 1) rfl) (pss_one (ps_fld (pv 0) (pv 2) rfl)), ?_⟩
    refine ⟨_, rfl, _, rfl, p, _, dx, _, rfl, hp, E.C_Mark.c, E.n_Mark_index, (by exact (by decide : 0 < 1000)), ?_⟩
    refine ⟨_, rfl, _, rfl, p, _, dx, _, rfl, upd_same, E.C_Mark.c, E.n_Mark_name, (by exact (by decide : 1 < 1000)), ?_⟩
    exact q _ ((But.upd).trans But.upd) upd_same
def spLiteral (K : PySem.W.Frag) : Sp := fun vs H Q _ => ∃ (p dx : Addr) (x0 : V) (x1 : V), vs = [.ref p, x0, x1] ∧ H p = some (.ins (cLiteral K) dx []) ∧ ∀ H', But p H H' → H' p = some (.ins (cLiteral K) dx (fLit x0 x1)) → Q .non H'
theorem ok_Literal (E : Env K mg) : FnOk P w K mg base CX0 1 (f_Literal___init__ K) (fd_Literal___init__ K) ["self", "index", "worth"] (spLiteral K) := by
  refine E.F_Literal___init__.ok sc_Literal___init__ (fun vs H Q E h => ?_) (fun cdv A outer s H vs Q E1 hr h => ?_)
  · obtain ⟨p, dx, x0, x1, rfl, _⟩ := h
    rfl
  · obtain ⟨p, dx, x0, x1, rfl, hp, q⟩ := h
    refine ⟨_, pss_cons (ps_fld (pv 0) (pv 1) rfl) (pss_one (ps_fld (pv 0) (pv 2) rfl)), ?_⟩
    refine ⟨_, rfl, _, rfl, p, _, dx, _, rfl, hp, E.C_Literal.c, E.n_Literal_index, (by exact (by decide : 0 < 1000)), ?_⟩
    refine ⟨_, rfl, _, rfl, p, _, dx, _, rfl, upd_same, E.C_Literal.c, E.n_Literal_worth, (by exact (by decide : 1 < 1000)), ?_⟩
    exact q _ ((But.upd).trans But.upd) upd_same
abbrev fTerm (a0 a1 : V) : List (Str × V) := [("factor", a0), ("path", a1)]
def spTerm (K : PySem.W.Frag) : Sp := fun vs H Q _ => ∃ (p dx : Addr) (x0 : V) (x1 : V), vs = [.ref p, x0, x1] ∧ H p = some (.ins (cTerm K) dx []) ∧ ∀ H', But p H H' → H' p = some (.ins (cTerm K) dx (fTerm x0 x1)) → Q .non H'
theorem ok_Term (E : Env K mg) : FnOk P w K mg base CX0 1 (f_Term___init__ K) (fd_Term___init__ K) ["self", "factor", "path"] (spTerm K) := by
  refine E.F_Term___init__.ok sc_Term___init__ (fun vs H Q E h => ?_) (fun cdv A outer s H vs Q E1 hr h => ?_)
  · obtain ⟨p, dx, x0, x1, rfl, _⟩ := h
    rfl
  · obtain ⟨p, dx, x0, x1, rfl, hp, q⟩ := h
    refine ⟨_, pss_cons (ps_fld (pv 0) (pv 1) rfl) (pss_one (ps_fld (pv 0) (pv 2) rfl)), ?_⟩
    refine ⟨_, rfl, _, rfl, p, _, dx, _, rfl, hp, E.C_Term.c, E.n_Term_factor, (by exact (by decide : 0 < 1000)), ?_⟩
    refine ⟨_, rfl, _, rfl, p, _, dx, _, rfl, upd_same, E.C_Term.c, E.n_Term_path, (by exact (by decide : 1 < 1000)), ?_⟩
    exact q _ ((But.upd).trans But.upd) upd_same
def spRecord (K : PySem.W.Frag) : Sp := fun vs H Q _ => ∃ (p dx : Addr) (x0 : V) (x1 : V), vs = [.ref p, x0, x1] ∧ H p = some (.ins (cRecord K) dx []) ∧ ∀ H', But p H H' → H' p = some (.ins (cRecord K) dx (fRec x0 x1)) → Q .non H'
theorem ok_Record (E : Env K mg) : FnOk P w K mg base CX0 1 (f_Record___init__ K) (fd_Record___init__ K) ["self", "template", "body"] (spRecord K) := by
  refine E.F_Record___init__.ok sc_Record___init__ (fun vs H Q E h => ?_) (fun cdv A outer s H vs Q E1 hr h => ?_)
  · obtain ⟨p, dx, x0, x1, rfl, _⟩ := h
    rfl
  · obtain ⟨p, dx, x0, x1, rfl, hp, q⟩ := h
    refine ⟨_, pss_cons (ps_fld (pv 0) (pv 1) rfl) (pss_one (ps_fld (pv 0) (pv 2) rfl)), ?_⟩
    refine ⟨_, rfl, _, rfl, p, _, dx, _, rfl, hp, E.C_Record.c, E.n_Record_template, (by exact (by decide : 0 < 1000)), ?_⟩
    refine ⟨_, rfl, _, rfl, p, _, dx, _, rfl, upd_same, E.C_Record.c, E.n_Record_body, (by exact (by decide : 1 < 1000)), ?_⟩
    exact q _ ((But.upd).trans But.upd) upd_same
abbrev fGiven (a0 a1 a2 a3 : V) : List (Str × V) := [("entry", a0), ("base", a1), ("loop", a2), ("declares", a3)]
def spGiven (K : PySem.W.Frag) : Sp := fun vs H Q _ => ∃ (p dx : Addr) (x0 : V) (x1 : V) (x2 : V) (x3 : V), vs = [.ref p, x0, x1, x2, x3] ∧ H p = some (.ins (cGiven K) dx []) ∧ ∀ H', But p H H' → H' p = some (.ins (cGiven K) dx (fGiven x0 x1 x2 x3)) → Q .non H'
theorem ok_Given (E : Env K mg) : FnOk P w K mg base CX0 1 (f_Given___init__ K) (fd_Given___init__ K) ["self", "entry", "base", "loop", "declares"] (spGiven K) := by
  refine E.F_Given___init__.ok sc_Given___init__ (fun vs H Q E h => ?_) (fun cdv A outer s H vs Q E1 hr h => ?_)
  · obtain ⟨p, dx, x0, x1, x2, x3, rfl, _⟩ := h
    rfl
  · obtain ⟨p, dx, x0, x1, x2, x3, rfl, hp, q⟩ := h
    refine ⟨_, pss_cons (ps_fld (pv 0) (pv 1) rfl) (pss_cons (ps_fld (pv 0) (pv 2) rfl) (pss_cons (ps_fld (pv 0) (pv 3) rfl) (pss_one (ps_fld (pv 0) (pv 4) rfl)))), ?_⟩
    refine ⟨_, rfl, _, rfl, p, _, dx, _, rfl, hp, E.C_Given.c, E.n_Given_entry, (by exact (by decide : 0 < 1000)), ?_⟩
    refine ⟨_, rfl, _, rfl, p, _, dx, _, rfl, upd_same, E.C_Given.c, E.n_Given_base, (by exact (by decide : 1 < 1000)), ?_⟩
    refine ⟨_, rfl, _, rfl, p, _, dx, _, rfl, upd_same, E.C_Given.c, E.n_Given_loop, (by exact (by decide : 2 < 1000)), ?_⟩
    refine ⟨_, rfl, _, rfl, p, _, dx, _, rfl, upd_same, E.C_Given.c, E.n_Given_declares, (by exact (by decide : 3 < 1000)), ?_⟩
    exact q _ ((((But.upd).trans But.upd).trans But.upd).trans But.upd) upd_same
def spColumn (K : PySem.W.Frag) : Sp := fun vs H Q _ => ∃ (p dx : Addr) (x1 : V) (markp markd : Addr) (mark0 mark1 : V), vs = [.ref p, .ref markp, x1] ∧ H p = some (.ins (cColumn K) dx []) ∧ H markp = some (.ins (cMark K) markd (fMark mark0 mark1)) ∧ ∀ H', But p H H' → H' p = some (.ins (cColumn K) dx (fCol mark0 mark1 x1)) → Q .non H'
theorem ok_Column (E : Env K mg) : FnOk P w K mg base CX0 1 (f_Column___init__ K) (fd_Column___init__ K) ["self", "mark", "kind"] (spColumn K) := by
  refine E.F_Column___init__.ok sc_Column___init__ (fun vs H Q E h => ?_) (fun cdv A outer s H vs Q E1 hr h => ?_)
  · obtain ⟨p, dx, x1, markp, markd, mark0, mark1, rfl, _⟩ := h
    rfl
  · obtain ⟨p, dx, x1, markp, markd, mark0, mark1, rfl, hp, hmark, q⟩ := h
    have nemark : markp ≠ p := by
      intro z
      rw [← z] at hp
      have z2 := (HO.ins.inj (Option.some.inj (hmark.symm.trans hp))).2.2
      cases z2
    refine ⟨_, pss_cons (ps_fld (pv 0) (pe_fld (pv 1) rfl) rfl) (pss_cons (ps_fld (pv 0) (pe_fld (pv 1) rfl) rfl) (pss_one (ps_fld (pv 0) (pv 2) rfl))), ?_⟩
    refine ⟨.ref markp, rfl, markp, _, markd, _, _, rfl, hmark, E.C_Mark.c, E.n_Mark_index, rfl, _, rfl, p, _, dx, _, rfl, hp, E.C_Column.c, E.n_Column_index, (by exact (by decide : 0 < 1000)), ?_⟩
    refine ⟨.ref markp, rfl, markp, _, markd, _, _, rfl, ((upd_ne nemark).trans hmark), E.C_Mark.c, E.n_Mark_name, rfl, _, rfl, p, _, dx, _, rfl, upd_same, E.C_Column.c, E.n_Column_name, (by exact (by decide : 1 < 1000)), ?_⟩
    refine ⟨_, rfl, _, rfl, p, _, dx, _, rfl, upd_same, E.C_Column.c, E.n_Column_kind, (by exact (by decide : 2 < 1000)), ?_⟩
    exact q _ (((But.upd).trans But.upd).trans But.upd) upd_same
def spOwner (K : PySem.W.Frag) : Sp := fun vs H Q _ => ∃ (p dx : Addr) (x0 : V) (x2 : V) (x3 : V) (markp markd : Addr) (mark0 mark1 : V), vs = [.ref p, x0, .ref markp, x2, x3] ∧ H p = some (.ins (cOwner K) dx []) ∧ H markp = some (.ins (cMark K) markd (fMark mark0 mark1)) ∧ ∀ H', But p H H' → H' p = some (.ins (cOwner K) dx (fOwn x0 mark0 mark1 x2 x3)) → Q .non H'
theorem ok_Owner (E : Env K mg) : FnOk P w K mg base CX0 1 (f_Owner___init__ K) (fd_Owner___init__ K) ["self", "file", "mark", "parent", "body"] (spOwner K) := by
  refine E.F_Owner___init__.ok sc_Owner___init__ (fun vs H Q E h => ?_) (fun cdv A outer s H vs Q E1 hr h => ?_)
  · obtain ⟨p, dx, x0, x2, x3, markp, markd, mark0, mark1, rfl, _⟩ := h
    rfl
  · obtain ⟨p, dx, x0, x2, x3, markp, markd, mark0, mark1, rfl, hp, hmark, q⟩ := h
    have nemark : markp ≠ p := by
      intro z
      rw [← z] at hp
      have z2 := (HO.ins.inj (Option.some.inj (hmark.symm.trans hp))).2.2
      cases z2
    refine ⟨_, pss_cons (ps_fld (pv 0) (pv 1) rfl) (pss_cons (ps_fld (pv 0) (pe_fld (pv 2) rfl) rfl) (pss_cons (ps_fld (pv 0) (pe_fld (pv 2) rfl) rfl) (pss_cons (ps_fld (pv 0) (pv 3) rfl) (pss_one (ps_fld (pv 0) (pv 4) rfl))))), ?_⟩
    refine ⟨_, rfl, _, rfl, p, _, dx, _, rfl, hp, E.C_Owner.c, E.n_Owner_file, (by exact (by decide : 0 < 1000)), ?_⟩
    refine ⟨.ref markp, rfl, markp, _, markd, _, _, rfl, ((upd_ne nemark).trans hmark), E.C_Mark.c, E.n_Mark_index, rfl, _, rfl, p, _, dx, _, rfl, upd_same, E.C_Owner.c, E.n_Owner_index, (by exact (by decide : 1 < 1000)), ?_⟩
    refine ⟨.ref markp, rfl, markp, _, markd, _, _, rfl, ((upd_ne nemark).trans ((upd_ne nemark).trans hmark)), E.C_Mark.c, E.n_Mark_name, rfl, _, rfl, p, _, dx, _, rfl, upd_same, E.C_Owner.c, E.n_Owner_name, (by exact (by decide : 2 < 1000)), ?_⟩
    refine ⟨_, rfl, _, rfl, p, _, dx, _, rfl, upd_same, E.C_Owner.c, E.n_Owner_parent, (by exact (by decide : 3 < 1000)), ?_⟩
    refine ⟨_, rfl, _, rfl, p, _, dx, _, rfl, upd_same, E.C_Owner.c, E.n_Owner_body, (by exact (by decide : 4 < 1000)), ?_⟩
    exact q _ (((((But.upd).trans But.upd).trans But.upd).trans But.upd).trans But.upd) upd_same
def spStock (K : PySem.W.Frag) : Sp := fun vs H Q _ => ∃ (p dx : Addr) (x0 : V) (x2 : V) (x3 : V) (markp markd : Addr) (mark0 mark1 : V), vs = [.ref p, x0, .ref markp, x2, x3] ∧ H p = some (.ins (cStock K) dx []) ∧ H markp = some (.ins (cMark K) markd (fMark mark0 mark1)) ∧ ∀ H', But p H H' → H' p = some (.ins (cStock K) dx (fStk x0 mark0 mark1 x2 x3)) → Q .non H'
theorem ok_Stock (E : Env K mg) : FnOk P w K mg base CX0 1 (f_Stock___init__ K) (fd_Stock___init__ K) ["self", "file", "mark", "columns", "goods"] (spStock K) := by
  refine E.F_Stock___init__.ok sc_Stock___init__ (fun vs H Q E h => ?_) (fun cdv A outer s H vs Q E1 hr h => ?_)
  · obtain ⟨p, dx, x0, x2, x3, markp, markd, mark0, mark1, rfl, _⟩ := h
    rfl
  · obtain ⟨p, dx, x0, x2, x3, markp, markd, mark0, mark1, rfl, hp, hmark, q⟩ := h
    have nemark : markp ≠ p := by
      intro z
      rw [← z] at hp
      have z2 := (HO.ins.inj (Option.some.inj (hmark.symm.trans hp))).2.2
      cases z2
    refine ⟨_, pss_cons (ps_fld (pv 0) (pv 1) rfl) (pss_cons (ps_fld (pv 0) (pe_fld (pv 2) rfl) rfl) (pss_cons (ps_fld (pv 0) (pe_fld (pv 2) rfl) rfl) (pss_cons (ps_fld (pv 0) (pv 3) rfl) (pss_one (ps_fld (pv 0) (pv 4) rfl))))), ?_⟩
    refine ⟨_, rfl, _, rfl, p, _, dx, _, rfl, hp, E.C_Stock.c, E.n_Stock_file, (by exact (by decide : 0 < 1000)), ?_⟩
    refine ⟨.ref markp, rfl, markp, _, markd, _, _, rfl, ((upd_ne nemark).trans hmark), E.C_Mark.c, E.n_Mark_index, rfl, _, rfl, p, _, dx, _, rfl, upd_same, E.C_Stock.c, E.n_Stock_index, (by exact (by decide : 1 < 1000)), ?_⟩
    refine ⟨.ref markp, rfl, markp, _, markd, _, _, rfl, ((upd_ne nemark).trans ((upd_ne nemark).trans hmark)), E.C_Mark.c, E.n_Mark_name, rfl, _, rfl, p, _, dx, _, rfl, upd_same, E.C_Stock.c, E.n_Stock_name, (by exact (by decide : 2 < 1000)), ?_⟩
    refine ⟨_, rfl, _, rfl, p, _, dx, _, rfl, upd_same, E.C_Stock.c, E.n_Stock_columns, (by exact (by decide : 3 < 1000)), ?_⟩
    refine ⟨_, rfl, _, rfl, p, _, dx, _, rfl, upd_same, E.C_Stock.c, E.n_Stock_goods, (by exact (by decide : 4 < 1000)), ?_⟩
    exact q _ (((((But.upd).trans But.upd).trans But.upd).trans But.upd).trans But.upd) upd_same
def spEntry (K : PySem.W.Frag) : Sp := fun vs H Q _ => ∃ (p dx : Addr) (x1 : V) (x2 : V) (markp markd : Addr) (mark0 mark1 : V), vs = [.ref p, .ref markp, x1, x2] ∧ H p = some (.ins (cEntry K) dx []) ∧ H markp = some (.ins (cMark K) markd (fMark mark0 mark1)) ∧ ∀ H', But p H H' → H' p = some (.ins (cEntry K) dx (fEnt mark0 mark1 x1 x2)) → Q .non H'
theorem ok_Entry (E : Env K mg) : FnOk P w K mg base CX0 1 (f_Entry___init__ K) (fd_Entry___init__ K) ["self", "mark", "hidden", "value"] (spEntry K) := by
  refine E.F_Entry___init__.ok sc_Entry___init__ (fun vs H Q E h => ?_) (fun cdv A outer s H vs Q E1 hr h => ?_)
  · obtain ⟨p, dx, x1, x2, markp, markd, mark0, mark1, rfl, _⟩ := h
    rfl
  · obtain ⟨p, dx, x1, x2, markp, markd, mark0, mark1, rfl, hp, hmark, q⟩ := h
    have nemark : markp ≠ p := by
      intro z
      rw [← z] at hp
      have z2 := (HO.ins.inj (Option.some.inj (hmark.symm.trans hp))).2.2
      cases z2
    refine ⟨_, pss_cons (ps_fld (pv 0) (pe_fld (pv 1) rfl) rfl) (pss_cons (ps_fld (pv 0) (pe_fld (pv 1) rfl) rfl) (pss_cons (ps_fld (pv 0) (pv 2) rfl) (pss_one (ps_fld (pv 0) (pv 3) rfl)))), ?_⟩
    refine ⟨.ref markp, rfl, markp, _, markd, _, _, rfl, hmark, E.C_Mark.c, E.n_Mark_index, rfl, _, rfl, p, _, dx, _, rfl, hp, E.C_Entry.c, E.n_Entry_index, (by exact (by decide : 0 < 1000)), ?_⟩
    refine ⟨.ref markp, rfl, markp, _, markd, _, _, rfl, ((upd_ne nemark).trans hmark), E.C_Mark.c, E.n_Mark_name, rfl, _, rfl, p, _, dx, _, rfl, upd_same, E.C_Entry.c, E.n_Entry_name, (by exact (by decide : 1 < 1000)), ?_⟩
    refine ⟨_, rfl, _, rfl, p, _, dx, _, rfl, upd_same, E.C_Entry.c, E.n_Entry_hidden, (by exact (by decide : 2 < 1000)), ?_⟩
    refine ⟨_, rfl, _, rfl, p, _, dx, _, rfl, upd_same, E.C_Entry.c, E.n_Entry_value, (by exact (by decide : 3 < 1000)), ?_⟩
    exact q _ ((((But.upd).trans But.upd).trans But.upd).trans But.upd) upd_same
def spLoop (K : PySem.W.Frag) : Sp := fun vs H Q _ => ∃ (p dx : Addr) (x0 : V) (x1 : V) (x2 : V) (recordp recordd : Addr) (record0 record1 : V), vs = [.ref p, x0, x1, x2, .ref recordp] ∧ H p = some (.ins (cLoop K) dx []) ∧ H recordp = some (.ins (cRecord K) recordd (fRec record0 record1)) ∧ ∀ H', But p H H' → H' p = some (.ins (cLoop K) dx (fLoop x0 x1 x2 record0 record1)) → Q .non H'
theorem ok_Loop (E : Env K mg) : FnOk P w K mg base CX0 1 (f_Loop___init__ K) (fd_Loop___init__ K) ["self", "item", "stock", "where", "record"] (spLoop K) := by
  refine E.F_Loop___init__.ok sc_Loop___init__ (fun vs H Q E h => ?_) (fun cdv A outer s H vs Q E1 hr h => ?_)
  · obtain ⟨p, dx, x0, x1, x2, recordp, recordd, record0, record1, rfl, _⟩ := h
    rfl
  · obtain ⟨p, dx, x0, x1, x2, recordp, recordd, record0, record1, rfl, hp, hrecord, q⟩ := h
    have nerecord : recordp ≠ p := by
      intro z
      rw [← z] at hp
      have z2 := (HO.ins.inj (Option.some.inj (hrecord.symm.trans hp))).2.2
      cases z2
    refine ⟨_, pss_cons (ps_fld (pv 0) (pv 1) rfl) (pss_cons (ps_fld (pv 0) (pv 2) rfl) (pss_cons (ps_fld (pv 0) (pv 3) rfl) (pss_cons (ps_fld (pv 0) (pe_fld (pv 4) rfl) rfl) (pss_one (ps_fld (pv 0) (pe_fld (pv 4) rfl) rfl))))), ?_⟩
    refine ⟨_, rfl, _, rfl, p, _, dx, _, rfl, hp, E.C_Loop.c, E.n_Loop_item, (by exact (by decide : 0 < 1000)), ?_⟩
    refine ⟨_, rfl, _, rfl, p, _, dx, _, rfl, upd_same, E.C_Loop.c, E.n_Loop_stock, (by exact (by decide : 1 < 1000)), ?_⟩
    refine ⟨_, rfl, _, rfl, p, _, dx, _, rfl, upd_same, E.C_Loop.c, E.n_Loop_where, (by exact (by decide : 2 < 1000)), ?_⟩
    refine ⟨.ref recordp, rfl, recordp, _, recordd, _, _, rfl, ((upd_ne nerecord).trans ((upd_ne nerecord).trans ((upd_ne nerecord).trans hrecord))), E.C_Record.c, E.n_Record_template, rfl, _, rfl, p, _, dx, _, rfl, upd_same, E.C_Loop.c, E.n_Loop_template, (by exact (by decide : 3 < 1000)), ?_⟩
    refine ⟨.ref recordp, rfl, recordp, _, recordd, _, _, rfl, ((upd_ne nerecord).trans ((upd_ne nerecord).trans ((upd_ne nerecord).trans ((upd_ne nerecord).trans hrecord)))), E.C_Record.c, E.n_Record_body, rfl, _, rfl, p, _, dx, _, rfl, upd_same, E.C_Loop.c, E.n_Loop_body, (by exact (by decide : 4 < 1000)), ?_⟩
    exact q _ (((((But.upd).trans But.upd).trans But.upd).trans But.upd).trans But.upd) upd_same
end
end V5

set_option maxHeartbeats 2000000
/-! The parser is made. -/
namespace V5
open PySem PySem.Spec PyProof.Rows L2 K2 GenW

section
variable {K : PySem.W.Frag} {mg : Str → Option Value}
theorem Env.bare (E : Env K mg) : Bare mg := ⟨E.u_len, E.u_abs, E.u_int, E.u_isinstance, E.u_str, E.u_all, E.u_range, E.u_list, E.u_max, E.u_min⟩
theorem Env.names (E : Env K mg) : Names mg := ⟨E.c_LETTERS, E.c_DIGITS, E.c_SIGNS, E.c_QUOTE, E.c_LONGEST_STRING⟩
end

/-- the tokens of a text, by signs -/
def strT (e : Nat × List Nat) : Tk := (e.1, ⟨e.2.toArray⟩)
def toks (l : List Nat) : List Tk := (scan 0 l).map strT
/-- .. and the text's end -/
def toksE (l : List Nat) : List Tk := toks l ++ [(l.length, ("" : Str))]

theorem clean_last : ∀ (n : Nat) (l : List Nat) (pos : Nat), l.length ≤ n → clean l = true →
    (match (scan pos l).getLast? with
      | none => skip l = l.length
      | some e => ∃ k, e.1 + e.2.length = pos + k ∧ k ≤ l.length ∧ k + skip (l.drop k) = l.length)
  | 0, [], pos, _, _ => by
    rw [scan_nil]
    exact skip_nil
  | n, l, pos, hn, hc => by
    by_cases z : tokL (l.drop (skip l)) = 0
    · rw [scan_end z]
      rw [clean_end z] at hc
      show skip l = l.length
      exact of_decide_eq_true hc
    · rw [scan_tok z]
      rw [clean_tok z] at hc
      have tl := tokL_le (l.drop (skip l))
      have sl := skip_len l
      have dl : (l.drop (skip l)).length = l.length - skip l := List.length_drop
      generalize hm : (l.drop (skip l)).drop (tokL (l.drop (skip l))) = m at hc ⊢
      have hmd : m = l.drop (skip l + tokL (l.drop (skip l))) := by rw [← hm, List.drop_drop]
      have ml : m.length = l.length - (skip l + tokL (l.drop (skip l))) := by rw [hmd, List.length_drop]
      have hn1 : 1 ≤ n := by omega
      obtain ⟨n', rfl⟩ : ∃ n', n = n' + 1 := ⟨n - 1, by omega⟩
      have ih := clean_last n' m (pos + skip l + tokL (l.drop (skip l))) (by omega) hc
      cases hg : (scan (pos + skip l + tokL (l.drop (skip l))) m).getLast? with
      | none =>
        rw [hg] at ih
        have hnil : scan (pos + skip l + tokL (l.drop (skip l))) m = [] := List.getLast?_eq_none_iff.mp hg
        rw [hnil]
        show ∃ k, _
        refine ⟨skip l + tokL (l.drop (skip l)), ?_, by omega, ?_⟩
        · show pos + skip l + ((l.drop (skip l)).take (tokL (l.drop (skip l)))).length = _
          rw [List.length_take]
          omega
        · rw [← hmd]
          have ih' : skip m = m.length := ih
          omega
      | some e =>
        rw [hg] at ih
        obtain ⟨k, e1, e2, e3⟩ := (show ∃ k, e.1 + e.2.length = pos + skip l + tokL (l.drop (skip l)) + k ∧ k ≤ m.length ∧ k + skip (m.drop k) = m.length from ih)
        have : (((pos + skip l, (l.drop (skip l)).take (tokL (l.drop (skip l)))) : Nat × List Nat) :: scan (pos + skip l + tokL (l.drop (skip l))) m).getLast? = some e := by
          cases hs : scan (pos + skip l + tokL (l.drop (skip l))) m with
          | nil =>
            rw [hs] at hg
            cases hg
          | cons a r =>
            rw [List.getLast?_cons_cons, ← hs]
            exact hg
        rw [this]
        show ∃ k, _
        refine ⟨skip l + tokL (l.drop (skip l)) + k, by omega, by omega, ?_⟩
        rw [show l.drop (skip l + tokL (l.drop (skip l)) + k) = m.drop k by rw [hmd, List.drop_drop]]
        omega
theorem toks_a2 {H : Hp} {vs : List V} {es : List (Nat × List Nat)} (x : Toks H vs es) : A2 (TkAt H) vs (es.map strT) := by
  induction x with
  | nil => exact .nil
  | cons a _ ih =>
    obtain ⟨t, e, h⟩ := a
    exact .cons ⟨t, e, h⟩ ih
theorem scan_few : ∀ (n : Nat) (l : List Nat) (pos : Nat), l.length ≤ n → (scan pos l).length ≤ l.length
  | n, l, pos, hn => by
    by_cases z : tokL (l.drop (skip l)) = 0
    · rw [scan_end z]
      exact Nat.zero_le _
    · rw [scan_tok z]
      have tl := tokL_le (l.drop (skip l))
      have dl : (l.drop (skip l)).length = l.length - skip l := List.length_drop
      have ml : ((l.drop (skip l)).drop (tokL (l.drop (skip l)))).length = l.length - skip l - tokL (l.drop (skip l)) := by rw [List.length_drop, dl]
      obtain ⟨n', rfl⟩ : ∃ n', n = n' + 1 := ⟨n - 1, by omega⟩
      have ih := scan_few n' _ (pos + skip l + tokL (l.drop (skip l))) (by rw [ml]; omega)
      rw [List.length_cons]
      omega

def spParser (K : PySem.W.Frag) : Sp := fun vs H Q _ => ∃ (p dx : Addr) (f x : Str), vs = [.ref p, .str f, .str x] ∧ H p = some (.ins (cParser K) dx []) ∧ (cp x).length ≤ most ∧ clean (cp x) = true ∧
  ∀ H' g, Kept p H H' → g.f = f → Par K H' p g (toksE (cp x)) → Q .non H'
section
variable {P : Program} {w : World} {K : PySem.W.Frag} {mg : Str → Option Value} {base : Heap}
theorem ok_next_start (E : Env K mg) : FnOk P w K mg base CX0 2 (f_next_start K) (fd_next_start K) ["text", "at"] spNext := ok_next E.F_next_start E.bare E.F_line_end E.D_line_end.b E.D_line_end.g
theorem ok_token_end (E : Env K mg) : FnOk P w K mg base CX0 3 (f_token_end K) (fd_token_end K) ["text", "start"] spEnd := ok_end E.F_token_end E.bare E.names
  E.F_is_inner E.D_is_inner.b E.D_is_inner.g E.F_run_end E.D_run_end.b E.D_run_end.g E.F_string_end E.D_string_end.b E.D_string_end.g
theorem gfn_toks (E : Env K mg) : GFn P w K mg base 4 (f_tokens K) (fd_tokens K) ["text"] spGTok := gfn_tokens E.F_tokens E.bare E.F_next_start E.D_next_start.b E.D_next_start.g (ok_next_start E) E.F_token_end E.D_token_end.b E.D_token_end.g (ok_token_end E)
end
end V5

set_option maxHeartbeats 2000000
namespace V5
open PySem PySem.Spec PyProof.Rows L2 K2 GenW
theorem joinE {t : TE} {R : V → Hp → Prop} {σ : L2.St} {H : Hp} {Q : VK} (h : ∀ Q' : VK, (∀ v H', R v H' → Q' v H') → t σ H Q') (q : ∀ v H', R v H' → Q v H') : t σ H Q := h Q q
theorem cp_nil : (cp ("" : Str)) = [] := rfl
section
variable {P : Program} {w : World} {K : PySem.W.Frag} {mg : Str → Option Value} {base : Heap}
theorem ok_Parser (E : Env K mg) : FnOk P w K mg base CX0 8 (f_Parser___init__ K) (fd_Parser___init__ K) ["self", "file", "text"] (spParser K) := by
  refine E.F_Parser___init__.ok sc_Parser___init__ (fun vs H Q E h => ?_) (fun cdv A outer s H vs Q E1 hr h => ?_)
  · obtain ⟨p, dx, f, x, rfl, _⟩ := h
    rfl
  · obtain ⟨p, dx, f, x, rfl, hp, hm, hc, q⟩ := h
    have GT : GFn P w K mg base 4 (f_tokens K) (fd_tokens K) ["text"] spGTok := gfn_toks E
    have GN : FnOk P w K mg base CX0 2 (f_next_start K) (fd_next_start K) ["text", "at"] spNext := ok_next_start E
    have Z := E.bare
    refine ⟨_, pss_cons (ps_fld (pv 0) (pv 1) rfl)
      (pss_cons (ps_fld (pv 0) (pe_listG (pgen_call GT (hr.mono (by decide)) (by rfl) E.D_tokens.g E.D_tokens.k E.D_tokens.b .nil (pa_cons (pv 2) pa_nil)) passes_never noStop_never (hr.mono (by decide)) (by rfl) Z.list boot_list) rfl)
      (pss_cons (ps_set (i := 3) sc_Parser___init__.nd rfl (.inl rfl) (pe_ifExp (pt_truth (pe_fld (pv 0) rfl) (by intro _; rfl)) (pe_ix ix_list (pe_fld (pv 0) rfl) (pe_un un_neg pe_int) (fun _ _ => rfl)) (pe_tup (pa_cons pe_int (pa_cons pe_str pa_nil)))))
      (pss_cons (ps_set (i := 4) sc_Parser___init__.nd rfl (.inl rfl) (pe_call GN (hr.mono (by decide)) (by rfl) E.D_next_start.g E.D_next_start.k E.D_next_start.b .nil pass0
        (pa_cons (pv 2) (pa_cons (pe_op op_add (pe_ix ix_tup (pv 3) pe_int (fun _ _ => rfl)) (pe_callB call_len_str (by rfl) Z.len PySem.boot_len (pa_cons (pe_ix ix_tup (pv 3) pe_int (fun _ _ => rfl)) pa_nil))) pa_nil))))
      (pss_cons (ps_fld (pv 0) (pe_ifExp (pt_cmpR op_eq (pv 4) (pe_callB call_len_str (by rfl) Z.len PySem.boot_len (pa_cons (pv 2) pa_nil)) (nomark _)) pe_str pe_str) rfl)
      (pss_cons (ps_expr (pe_bm PySem.F.plainAttrs_list PySem.F.slot_list_append PySem.F.type_list_append mt_append (pe_fld (pv 0) rfl) (pa_cons (pe_tup (pa_cons (pv 4) (pa_cons pe_str pa_nil))) pa_nil)))
      (pss_one (ps_fld (pv 0) pe_int rfl))))))), ?_⟩
    have Cp := E.C_Parser.c
    refine ⟨_, rfl, _, rfl, p, _, dx, _, rfl, hp, Cp, E.n_Parser_file, (by exact (by decide : 0 < 1000)), ?_⟩
    have k1 : Kept p H (upd H p (.ins (cParser K) dx (putF "file" (.str f) []))) := (Kept.refl p H).upd
    have e1 : (upd H p (.ins (cParser K) dx (putF "file" (.str f) []))) p = some (.ins (cParser K) dx [("file", .str f)]) := upd_same
    generalize upd H p (.ins (cParser K) dx (putF "file" (.str f) [])) = H1 at k1 e1 ⊢
    refine ⟨.str x, rfl, x, rfl, hm, fun ys H2 sm tk l hl => ?_⟩
    have hys : ys.length = (scan 0 (cp x)).length := tk.length
    have few := scan_few _ (cp x) 0 (Nat.le_refl _)
    have m20 : most = 2 ^ 19 := rfl
    have k3 : Kept p H (upd H2 l (.lst ys)) := k1.trans fun a o e _ => same_upd hl _ _ (sm _ _ e)
    have e3 : (upd H2 l (.lst ys)) p = some (.ins (cParser K) dx [("file", .str f)]) := same_upd hl _ _ (sm _ _ e1)
    have l3 : (upd H2 l (.lst ys)) l = some (.lst ys) := upd_same
    have t3 : A2 (TkAt (upd H2 l (.lst ys))) ys (toks (cp x)) := (toks_a2 tk).imp fun _ _ ⟨t, e, h⟩ => ⟨t, e, same_upd hl _ _ h⟩
    have n3 : l ≠ p := by
      rintro rfl
      rw [sm _ _ e1] at hl
      cases hl
    have hfr : H l = none := by
      cases z : H l with
      | none => rfl
      | some o => exact absurd (sm _ _ (k1 _ _ z n3)) (by rw [hl]; exact fun z => nomatch z)
    generalize upd H2 l (.lst ys) = H3 at k3 e3 l3 t3 ⊢
    refine ⟨_, rfl, p, _, dx, _, rfl, e3, Cp, E.n_Parser_found, (by exact (by decide : 1 < 1000)), ?_⟩
    have k4 : Kept p H (upd H3 p (.ins (cParser K) dx (putF "found" (.ref l) [("file", .str f)]))) := k3.upd
    have e4 : (upd H3 p (.ins (cParser K) dx (putF "found" (.ref l) [("file", .str f)]))) p = some (.ins (cParser K) dx [("file", .str f), ("found", .ref l)]) := upd_same
    have l4 : (upd H3 p (.ins (cParser K) dx (putF "found" (.ref l) [("file", .str f)]))) l = some (.lst ys) := by rw [upd_ne n3]; exact l3
    have t4 : A2 (TkAt (upd H3 p (.ins (cParser K) dx (putF "found" (.ref l) [("file", .str f)])))) ys (toks (cp x)) := t3.imp fun _ _ ⟨t, e, h⟩ => ⟨t, e, by
      rw [upd_ne (by rintro rfl; rw [e3] at h; cases h)]
      exact h⟩
    generalize upd H3 p (.ins (cParser K) dx (putF "found" (.ref l) [("file", .str f)])) = H4 at k4 e4 l4 t4 ⊢
    -- the last token's end
    have xl : (cp x).length ≤ sizeLine := most_line hm
    have cl := clean_last _ (cp x) 0 (Nat.le_refl _) hc
    have nofresh : ∀ b o, H b = some o → b ≠ p → H4 b = some o := k4
    dsimp only
    show tAsg (tIf _ _ _) _ _ _ _
    show tIf _ _ _ _ _ _
    refine joinE (t := tIf _ _ _) (R := fun v H5 => ∃ (lt : Addr) (i : Nat) (sg : Str), v = .ref lt ∧ H5 lt = some (.tup [.int i, .str sg]) ∧ Kept p H H5 ∧ H5 p = some (.ins (cParser K) dx [("file", .str f), ("found", .ref l)]) ∧ H5 l = some (.lst ys) ∧
        A2 (TkAt H5) ys (toks (cp x)) ∧ i + (cp sg).length ≤ (cp x).length ∧ i + (cp sg).length + skip ((cp x).drop (i + (cp sg).length)) = (cp x).length) (fun Q' m => ?_) (fun v H5 r => ?_)
    · refine ⟨_, rfl, p, _, dx, _, _, rfl, e4, Cp, E.n_Parser_found, rfl, _, .inl ⟨_, SqL.of l4, rfl⟩, ?_⟩
      cases hg : (scan 0 (cp x)).getLast? with
      | none =>
        rw [hg] at cl
        have cl' : skip (cp x) = (cp x).length := cl
        have hnil : scan 0 (cp x) = [] := List.getLast?_eq_none_iff.mp hg
        rw [hnil] at hys
        have y0 : ys = [] := List.eq_nil_of_length_eq_zero hys
        subst y0
        refine iteF ⟨by show 2 ≤ sizeLine; decide, fun t ht => ?_⟩
        have sm5 : Same H4 (upd H4 t (.tup [.int 0, .str ("" : Str)])) := same_upd ht
        refine m _ _ ⟨t, 0, ("" : Str), rfl, upd_same, k4.trans fun a o e _ => sm5 _ _ e, sm5 _ _ e4, sm5 _ _ l4, t4.imp fun _ _ ⟨t, e, h⟩ => ⟨t, e, sm5 _ _ h⟩, Nat.zero_le _, ?_⟩
        rw [cp_nil]
        show 0 + 0 + skip ((cp x).drop (0 + 0)) = _
        rw [List.drop_zero, cl']
        omega
      | some e =>
        rw [hg] at cl
        obtain ⟨k, c1, c2, c3⟩ := (show ∃ k, e.1 + e.2.length = 0 + k ∧ k ≤ (cp x).length ∧ k + skip ((cp x).drop k) = (cp x).length from cl)
        have ne : scan 0 (cp x) ≠ [] := by
          intro z
          rw [z] at hg
          cases hg
        have hts : (toks (cp x))[(scan 0 (cp x)).length - 1]? = some (strT e) := by
          unfold toks
          rw [List.getElem?_map, ← List.getLast?_eq_getElem?, hg]
          rfl
        obtain ⟨v, hv, lt, ev, hlt⟩ := t4.get hts
        have ye : ys = ys.dropLast ++ [v] := by
          have l0 : ys.length - 1 < ys.length := by
            have := List.length_pos_iff.mpr ne
            omega
          have hy : ys ≠ [] := by
            rintro rfl
            simp at l0
          have h2 : ys.getLast hy = v := by
            rw [← hys, ← List.getLast?_eq_getElem?, List.getLast?_eq_some_getLast hy] at hv
            exact Option.some.inj hv
          rw [← h2, List.dropLast_concat_getLast]
        have em : (!ys.isEmpty) = true := by
          rw [ye]
          simp
        rw [em]
        subst ev
        refine iteT ⟨_, rfl, p, _, dx, _, _, rfl, e4, Cp, E.n_Parser_found, rfl, 1, rfl, ?_⟩
        refine ⟨l, ys, -1, .ref lt, rfl, rfl, SqL.of l4, ?_, ?_⟩
        · rw [ye]
          exact atI_last _ _
        · have ee : (cp (strT e).2).length = e.2.length := by
            show (cp ⟨e.2.toArray⟩).length = _
            simp [cp]
          refine m _ _ ⟨lt, e.1, (strT e).2, rfl, hlt, k4, e4, l4, t4, by rw [ee]; omega, ?_⟩
          rw [ee, show e.1 + e.2.length = k by omega]
          exact c3
    · obtain ⟨lt, i, sg, rfl, h5, k5, e5, l5, t5, c1, c2⟩ := r
      have m63 := most63 hm
      have sgl : (cp sg).length ≤ sizeLine := by omega
      refine ⟨_, rfl, .ref lt, rfl, lt, _, _, _, rfl, rfl, SqT.of h5, atI_nat (j := 0) rfl, .ref lt, rfl, lt, _, _, _, rfl, rfl, SqT.of h5, atI_nat (j := 1) rfl, sg, rfl, ?_, i, _, rfl, rfl, ?_⟩
      · rw [← cp_len]
        exact sgl
      refine ⟨x, i + (cp sg).length, ?_, c1, hm, ?_⟩
      · rw [cp_len]
        rfl
      rw [c2]
      have xx : x.length ≤ sizeLine := by rw [← cp_len]; exact xl
      dsimp only
      show sFld _ _ (tIf _ _ _) _ _ _ _
      show tIf _ _ _ _ _ _
      refine joinE (t := tIf _ _ _) (R := fun v H6 => v = .str "form" ∧ H6 = H5) (fun Q' m => ?_) (fun v H6 r => ?_)
      · refine ⟨_, rfl, _, rfl, x, rfl, xx, rfl, _, rfl, ?_⟩
        rw [cp_len, decide_eq_true rfl]
        exact iteT (m _ _ ⟨rfl, rfl⟩)
      obtain ⟨rfl, rfl⟩ := r
      refine ⟨_, rfl, p, _, dx, _, rfl, e5, Cp, E.n_Parser_end_word, (by exact (by decide : 2 < 1000)), ?_⟩
      have np : ∀ b o, H6 b = some o → (∀ fs, o ≠ .ins (cParser K) dx fs) → b ≠ p := fun b o e n => by
        rintro rfl
        rw [e5] at e
        exact n _ (Option.some.inj e).symm
      have k6 : Kept p H (upd H6 p (.ins (cParser K) dx (putF "end_word" (.str "form") [("file", .str f), ("found", .ref l)]))) := k5.upd
      have e6 : (upd H6 p (.ins (cParser K) dx (putF "end_word" (.str "form") [("file", .str f), ("found", .ref l)]))) p = some (.ins (cParser K) dx [("file", .str f), ("found", .ref l), ("end_word", .str "form")]) := upd_same
      have l6 : (upd H6 p (.ins (cParser K) dx (putF "end_word" (.str "form") [("file", .str f), ("found", .ref l)]))) l = some (.lst ys) := by rw [upd_ne n3]; exact l5
      have t6 : A2 (TkAt (upd H6 p (.ins (cParser K) dx (putF "end_word" (.str "form") [("file", .str f), ("found", .ref l)])))) ys (toks (cp x)) := t5.imp fun _ _ ⟨t, e, h⟩ => ⟨t, e, by
        rw [upd_ne (np _ _ h fun _ z => nomatch z)]
        exact h⟩
      generalize upd H6 p (.ins (cParser K) dx (putF "end_word" (.str "form") [("file", .str f), ("found", .ref l)])) = H7 at k6 e6 l6 t6 ⊢
      refine ⟨_, rfl, p, _, dx, _, _, rfl, e6, Cp, E.n_Parser_found, rfl, .inl ⟨rfl, _, SqL.of l6⟩, _, rfl, by show 2 ≤ sizeLine; decide, fun t ht => ?_⟩
      have sm7 : Same H7 (upd H7 t (.tup [.int (cp x).length, .str ("" : Str)])) := same_upd ht
      have k7 : Kept p H (upd H7 t (.tup [.int (cp x).length, .str ("" : Str)])) := k6.trans fun a o e _ => sm7 _ _ e
      have e7 := sm7 _ _ e6
      have l7 := sm7 _ _ l6
      have t7 : A2 (TkAt (upd H7 t (.tup [.int (cp x).length, .str ("" : Str)]))) (ys ++ [.ref t]) (toksE (cp x)) := (t6.imp fun _ _ ⟨t, e, h⟩ => ⟨t, e, sm7 _ _ h⟩).snoc ⟨t, rfl, upd_same⟩
      generalize upd H7 t (.tup [.int (cp x).length, .str ("" : Str)]) = H8 at k7 e7 l7 t7 ⊢
      have m24 : most + 10 < sizeLine := by decide
      refine ⟨l, ys, _, rfl, rfl, l7, by omega, ?_⟩
      have k8 : Kept p H (upd H8 l (.lst (ys ++ [.ref t]))) := fun a o e n => by
        rw [upd_ne (ne_of_none e hfr)]
        exact k7 a o e n
      have e8 : (upd H8 l (.lst (ys ++ [.ref t]))) p = some (.ins (cParser K) dx [("file", .str f), ("found", .ref l), ("end_word", .str "form")]) := by
        rw [upd_ne (Ne.symm n3)]
        exact e7
      have l8 : (upd H8 l (.lst (ys ++ [.ref t]))) l = some (.lst (ys ++ [.ref t])) := upd_same
      have t8 : A2 (TkAt (upd H8 l (.lst (ys ++ [.ref t])))) (ys ++ [.ref t]) (toksE (cp x)) := t7.imp fun _ _ ⟨t, e, h⟩ => ⟨t, e, by
        rw [upd_ne (by rintro rfl; rw [l7] at h; cases h)]
        exact h⟩
      generalize upd H8 l (.lst (ys ++ [.ref t])) = H9 at k8 e8 l8 t8 ⊢
      refine ⟨_, rfl, p, _, dx, _, rfl, e8, Cp, E.n_Parser_at, (by exact (by decide : 3 < 1000)), ?_⟩
      have np9 : ∀ b o, H9 b = some o → (∀ fs, o ≠ .ins (cParser K) dx fs) → b ≠ p := fun b o e n => by
        rintro rfl
        rw [e8] at e
        exact n _ (Option.some.inj e).symm
      refine q _ ⟨f, dx, l, ys ++ [.ref t], toksE (cp x)⟩ k8.upd rfl ⟨0, upd_same, by rw [upd_ne n3]; exact l8, t8.imp fun _ _ ⟨t, e, h⟩ => ⟨t, e, by
        rw [upd_ne (np9 _ _ h fun _ z => nomatch z)]
        exact h⟩, List.drop_zero, ?_, ?_⟩
      · simp [toksE]
      · have : (toksE (cp x)).length = (scan 0 (cp x)).length + 1 := by simp [toksE, toks]
        show (toksE (cp x)).length < 2 ^ 20
        omega
end
end V5

set_option maxHeartbeats 2000000
/-! The parser's first methods. -/
namespace V5
open PySem PySem.Spec PyProof.Rows L2 K2

theorem Par.same {K : PySem.W.Frag} {H H' : Hp} {p : Addr} {g : Pg} {L : List Tk} (s : Same H H') : Par K H p g L → Par K H' p g L := fun ⟨a, hp, hl, tk, hd, ha, hb⟩ =>
  ⟨a, s _ _ hp, s _ _ hl, tk.imp fun _ _ ⟨q, e, h⟩ => ⟨q, e, s _ _ h⟩, hd, ha, hb⟩
/-- one token more is read -/
theorem par_step {K : PySem.W.Frag} {H : Hp} {p dx l : Addr} {f : Str} {vs : List V} {ts L : List Tk} {a : Nat} {t : Tk} (hp : H p = some (.ins (cParser K) dx (fPar (.str f) (.ref l) (.str "form") (.int ((a : Nat) : Int)))))
    (hl : H l = some (.lst vs)) (tk : A2 (TkAt H) vs ts) (hd : ts.drop a = t :: L) (hb : ts.length < 2 ^ 20) :
    St H (upd H p (.ins (cParser K) dx (fPar (.str f) (.ref l) (.str "form") (.int (((a + 1 : Nat)) : Int))))) ∧ Par K (upd H p (.ins (cParser K) dx (fPar (.str f) (.ref l) (.str "form") (.int (((a + 1 : Nat)) : Int))))) p ⟨f, dx, l, vs, ts⟩ L := by
  have st : St H (upd H p (.ins (cParser K) dx (fPar (.str f) (.ref l) (.str "form") (.int (((a + 1 : Nat)) : Int))))) := St.updP hp rfl
  have lt : a < ts.length := by
    rcases Nat.lt_or_ge a ts.length with h | h
    · exact h
    · rw [List.drop_eq_nil_of_le h] at hd
      cases hd
  refine ⟨st, a + 1, upd_same, st.at hl rfl, tk.imp fun _ _ ⟨q, e, h⟩ => ⟨q, e, st.at h rfl⟩, ?_, lt, hb⟩
  rw [List.drop_eq_getElem_cons lt] at hd
  exact (List.cons.inj hd).2
theorem par_at {H : Hp} {vs : List V} {ts L : List Tk} {a : Nat} {t : Tk} (tk : A2 (TkAt H) vs ts) (hd : ts.drop a = t :: L) : ∃ q, atI vs (a : Int) = some (.ref q) ∧ H q = some (.tup [.int t.1, .str t.2]) := by
  have e : ts[a]? = some t := by
    have := congrArg (fun l => l[0]?) hd
    simpa using this
  obtain ⟨v, hv, q, rfl, hq⟩ := tk.get e
  exact ⟨q, atI_nat hv, hq⟩

def spHere (K : PySem.W.Frag) : Sp := fun vs H Q _ => ∃ p g L i s, vs = [.ref p] ∧ Par K H p g ((i, s) :: L) ∧ Q (.int (i : Nat)) H
def spToken (K : PySem.W.Frag) : Sp := fun vs H Q _ => ∃ p g L i s, vs = [.ref p] ∧ Par K H p g ((i, s) :: L) ∧ Q (.str s) H
def spTakeT (K : PySem.W.Frag) : Sp := fun vs H Q _ => ∃ p g L i s, vs = [.ref p] ∧ Par K H p g ((i, s) :: L) ∧ ∀ H', St H H' → Par K H' p g L → Q (.str s) H'
def spExpect (K : PySem.W.Frag) : Sp := fun vs H Q _ => ∃ p g L i s, vs = [.ref p, .str s] ∧ Par K H p g ((i, s) :: L) ∧ ∀ H', St H H' → Par K H' p g L → Q .non H'
def spAccepts (K : PySem.W.Frag) : Sp := fun vs H Q _ => ∃ p g L i s t, vs = [.ref p, .str t] ∧ Par K H p g ((i, s) :: L) ∧ (s = t → ∀ H', St H H' → Par K H' p g L → Q (.bl true) H') ∧ (s ≠ t → Q (.bl false) H)
theorem dec_str (y z : Str) : decide (V.str y = V.str z) = decide (y = z) := by
  by_cases h : y = z
  · rw [decide_eq_true h, decide_eq_true (congrArg V.str h)]
  · rw [decide_eq_false h, decide_eq_false (fun e => h (by cases e; rfl))]
section
variable {P : Program} {w : World} {K : PySem.W.Frag} {mg : Str → Option Value} {base : Heap}
theorem ok_here (E : Env K mg) : FnOk P w K mg base CX0 1 (f_Parser_here K) (fd_Parser_here K) ["self"] (spHere K) := by
  refine E.F_Parser_here.ok sc_Parser_here (fun vs H Q E h => ?_) (fun cdv A outer s H vs Q E1 hr h => ?_)
  · obtain ⟨p, f, L, i, s, rfl, _⟩ := h
    rfl
  · obtain ⟨p, ⟨f, dx, l, vs, ts⟩, L, i, s, rfl, ⟨a, hp, hl, tk, hd, ha, hb⟩, q⟩ := h
    refine ⟨_, pss_one (ps_ret (pe_ix ix_tup (pe_ix ix_list (pe_fld (pv 0) rfl) (pe_fld (pv 0) rfl) (fun _ _ => rfl)) pe_int (fun _ _ => rfl))), ?_⟩
    obtain ⟨z, h1, h2⟩ := par_at tk hd
    refine ⟨_, rfl, p, _, dx, _, _, rfl, hp, E.C_Parser.c, E.n_Parser_found, rfl, _, rfl, p, _, dx, _, _, rfl, hp, E.C_Parser.c, E.n_Parser_at, rfl, ?_⟩
    exact ⟨l, vs, (a : Int), .ref z, rfl, rfl, SqL.of hl, h1, z, _, 0, _, rfl, rfl, SqT.of h2, atI_nat (j := 0) rfl, q⟩
theorem ok_token (E : Env K mg) : FnOk P w K mg base CX0 1 (f_Parser_token K) (fd_Parser_token K) ["self"] (spToken K) := by
  refine E.F_Parser_token.ok sc_Parser_token (fun vs H Q E h => ?_) (fun cdv A outer s H vs Q E1 hr h => ?_)
  · obtain ⟨p, f, L, i, s, rfl, _⟩ := h
    rfl
  · obtain ⟨p, ⟨f, dx, l, vs, ts⟩, L, i, s, rfl, ⟨a, hp, hl, tk, hd, ha, hb⟩, q⟩ := h
    refine ⟨_, pss_one (ps_ret (pe_ix ix_tup (pe_ix ix_list (pe_fld (pv 0) rfl) (pe_fld (pv 0) rfl) (fun _ _ => rfl)) pe_int (fun _ _ => rfl))), ?_⟩
    obtain ⟨z, h1, h2⟩ := par_at tk hd
    refine ⟨_, rfl, p, _, dx, _, _, rfl, hp, E.C_Parser.c, E.n_Parser_found, rfl, _, rfl, p, _, dx, _, _, rfl, hp, E.C_Parser.c, E.n_Parser_at, rfl, ?_⟩
    exact ⟨l, vs, (a : Int), .ref z, rfl, rfl, SqL.of hl, h1, z, _, 1, _, rfl, rfl, SqT.of h2, atI_nat (j := 1) rfl, q⟩
/-- a method without arguments, of the parser -/
theorem pmeth0 {C p dx : Addr} {m : Str} {fs : List (Str × V)} {sp : Sp} {E : XK} {σ : L2.St} {H : Hp} {Q : VK} (hσ : σ[0]? = some (some (.ref p))) (hp : H p = some (.ins C dx fs)) (hm : fs.lookup m = none) (h : sp [.ref p] H Q E) :
    tMeth C m sp [] E (tVar 0) tNil σ H Q := ⟨.ref p, hσ, p, dx, fs, rfl, hp, hm, h⟩
theorem par_ins {K : PySem.W.Frag} {H : Hp} {p : Addr} {g : Pg} {L : List Tk} (h : Par K H p g L) : ∃ a, H p = some (.ins (cParser K) g.dx (fPar (.str g.f) (.ref g.l) (.str "form") a)) := by
  obtain ⟨a, hp, _⟩ := h
  exact ⟨_, hp⟩
theorem ok_take_t (E : Env K mg) : FnOk P w K mg base CX0 2 (f_Parser_take K) (fd_Parser_take K) ["self"] (spTakeT K) := by
  refine E.F_Parser_take.ok sc_Parser_take (fun vs H Q E h => ?_) (fun cdv A outer s H vs Q E1 hr h => ?_)
  · obtain ⟨p, f, L, i, s, rfl, _⟩ := h
    rfl
  · obtain ⟨p, ⟨f, dx, l, vs, ts⟩, L, i, s, rfl, hP, q⟩ := h
    have GT : FnOk P w K mg base CX0 1 (f_Parser_token K) (fd_Parser_token K) ["self"] (spToken K) := ok_token E
    refine ⟨_, pss_cons (ps_set (i := 1) sc_Parser_take.nd rfl (.inl rfl) (pe_meth0 (pv 0) E.C_Parser.c E.M_Parser_token.m GT hr E.M_Parser_token.b .nil pass0))
      (pss_cons (ps_fldaug (pv 0) pe_int ip_add) (pss_one (ps_ret (pv 1)))), ?_⟩
    obtain ⟨a, hp, hl, tk, hd, ha, hb⟩ := id hP
    refine pmeth0 (dx := dx) rfl hp rfl ⟨p, _, L, i, s, rfl, hP, ?_⟩
    obtain ⟨st, pr⟩ := par_step hp hl tk hd hb
    refine ⟨_, rfl, p, _, dx, _, .int a, rfl, hp, E.C_Parser.c, E.n_Parser_at, rfl, a, _, rfl, rfl, dx, _, hp, (by exact (by decide : 4 < 1000)), .str s, rfl, ?_⟩
    exact q _ st pr
theorem ok_expect (E : Env K mg) : FnOk P w K mg base CX0 2 (f_Parser_expect K) (fd_Parser_expect K) ["self", "token"] (spExpect K) := by
  refine E.F_Parser_expect.ok sc_Parser_expect (fun vs H Q E h => ?_) (fun cdv A outer s H vs Q E1 hr h => ?_)
  · obtain ⟨p, f, L, i, s, rfl, _⟩ := h
    rfl
  · obtain ⟨p, ⟨f, dx, l, vs, ts⟩, L, i, s, rfl, hP, q⟩ := h
    have GT : FnOk P w K mg base CX0 1 (f_Parser_token K) (fd_Parser_token K) ["self"] (spToken K) := ok_token E
    refine ⟨_, pss_cons (ps_if (pt_cmpR op_ne (pe_meth0 (pv 0) E.C_Parser.c E.M_Parser_token.m GT hr E.M_Parser_token.b .nil pass0) (pv 1) (nomark _)) (pss_one ps_never) pss_nil)
      (pss_one (ps_fldaug (pv 0) pe_int ip_add)), ?_⟩
    obtain ⟨a, hp, hl, tk, hd, ha, hb⟩ := id hP
    refine pmeth0 (dx := dx) rfl hp rfl ⟨p, _, L, i, s, rfl, hP, _, rfl, rfl, _, rfl, ?_⟩
    rw [dec_str, decide_eq_true rfl]
    obtain ⟨st, pr⟩ := par_step hp hl tk hd hb
    refine iteF ⟨_, rfl, p, _, dx, _, .int a, rfl, hp, E.C_Parser.c, E.n_Parser_at, rfl, a, _, rfl, rfl, dx, _, hp, (by exact (by decide : 4 < 1000)), ?_⟩
    exact q _ st pr
theorem ok_accepts (E : Env K mg) : FnOk P w K mg base CX0 2 (f_Parser_accepts K) (fd_Parser_accepts K) ["self", "token"] (spAccepts K) := by
  refine E.F_Parser_accepts.ok sc_Parser_accepts (fun vs H Q E h => ?_) (fun cdv A outer s H vs Q E1 hr h => ?_)
  · obtain ⟨p, f, L, i, s, t, rfl, _⟩ := h
    rfl
  · obtain ⟨p, ⟨f, dx, l, vs, ts⟩, L, i, s, t, rfl, hP, q1, q2⟩ := h
    have GT : FnOk P w K mg base CX0 1 (f_Parser_token K) (fd_Parser_token K) ["self"] (spToken K) := ok_token E
    refine ⟨_, pss_cons (ps_if (pt_cmpR op_ne (pe_meth0 (pv 0) E.C_Parser.c E.M_Parser_token.m GT hr E.M_Parser_token.b .nil pass0) (pv 1) (nomark _)) (pss_one (ps_ret pe_bl)) pss_nil)
      (pss_cons (ps_fldaug (pv 0) pe_int ip_add) (pss_one (ps_ret pe_bl))), ?_⟩
    obtain ⟨a, hp, hl, tk, hd, ha, hb⟩ := id hP
    refine pmeth0 (dx := dx) rfl hp rfl ⟨p, _, L, i, s, rfl, hP, _, rfl, rfl, _, rfl, ?_⟩
    rw [dec_str]
    by_cases e : s = t
    · rw [decide_eq_true e]
      obtain ⟨st, pr⟩ := par_step hp hl tk hd hb
      refine iteF ⟨_, rfl, p, _, dx, _, .int a, rfl, hp, E.C_Parser.c, E.n_Parser_at, rfl, a, _, rfl, rfl, dx, _, hp, (by exact (by decide : 4 < 1000)), ?_⟩
      exact q1 e _ st pr
    · rw [decide_eq_false e]
      exact iteT (q2 e)
end
end V5

set_option maxHeartbeats 2000000
/-! is_name of a text. -/
namespace V5
open PySem PySem.Spec PyProof.Rows L2 K2

def letters : Str := "abcdefghijklmnopqrstuvwxyz"
def inLet (c : Nat) : Bool := decide (c ∈ letters.cps.toList)
/-- whether a text is a name -/
def isNm (x : Str) : Bool := decide (1 ≤ x.length ∧ x.length ≤ 12) && x.cps.toList.all inLet && !inV (.str x) (words.map V.str)
theorem small1000 {n : Nat} (h : n ≤ 1000) : n < sizeLine := Nat.lt_of_le_of_lt h (by decide)
def spName : Sp := fun vs H Q _ => ∃ x : Str, vs = [.str x] ∧ x.length ≤ sizeLine ∧ ∀ H', Same H H' → Q (.bl (isNm x)) H'
theorem isNm_len {x : Str} (h : ¬ (1 ≤ x.length ∧ x.length ≤ 12)) : isNm x = false := by
  unfold isNm
  rw [decide_eq_false h]
  rfl
theorem isNm_all {x : Str} (h : x.cps.toList.all inLet = false) : isNm x = false := by
  unfold isNm
  rw [h, Bool.and_false]
  rfl
theorem isNm_eq {x : Str} (h : 1 ≤ x.length ∧ x.length ≤ 12) (h2 : x.cps.toList.all inLet = true) :
    isNm x = !inV (.str x) (words.map V.str) := by
  unfold isNm
  rw [decide_eq_true h, h2]
  rfl

theorem words_flat : (words.map V.str).all flatV = true := by decide +kernel

section
variable {P : Program} {w : World} {K : PySem.W.Frag} {mg : Str → Option Value} {base : Heap}
theorem ok_is_name (E : Env K mg) : FnOk P w K mg base CX0 1 (f_is_name K) (fd_is_name K) ["value"] spName := by
  obtain ⟨tl, hL⟩ := E.c_LETTERS
  obtain ⟨tn, hN⟩ := E.c_LONGEST_NAME
  have hW := E.glo 110 _ rfl
  have sW : ∀ H, SqT K H (He.ga K "WORDS") (words.map V.str) := fun H => He.tupB_ok (ex_at E.more 36 rfl) H
  have Z := E.bare
  refine E.F_is_name.ok sc_is_name (fun vs H Q E h => ?_) (fun cdv A outer s H vs Q E1 hr h => ?_)
  · obtain ⟨x, rfl, _⟩ := h
    rfl
  · obtain ⟨x, rfl, hp, q⟩ := h
    refine ⟨_, pss_cons (ps_if (PW.pt (pw_or (pt_not (pt_val (pe_callB call_isi (by rfl) Z.isin (by decide +kernel)
          (pa_cons (pv 0) (pa_cons (pe_bltn (v := .ty "str") (by rfl) Z.str (by decide +kernel) rfl) pa_nil)))))
        (pw_or1 (pt_not (pt_chain op_le op_le pe_int (pe_callB call_len_str (by rfl) Z.len PySem.boot_len (pa_cons (pv 0) pa_nil))
          (pe_glob (v := .int 12) (by rfl) hN ⟨tn, rfl⟩))))))
        (pss_one (ps_ret pe_bl)) pss_nil)
      (pss_one (ps_ret (pe_and (pe_callB (cr_all rfl) (by rfl) Z.all (by decide +kernel) (pa_cons
          (pe_lc (own := [("letter", 1)]) (g := gName 1) (tt := tYes) rfl sc_is_name.nd (pi_str (pv 0))
            (blkOk_by (N := ["value", "letter"]) (sc := defScope s_is_name) (by decide +kernel))
            (fun _ _ _ _ _ => pg_name (i := 1) sc_is_name.nd rfl (Or.inl rfl)) (fun _ _ _ _ _ => pts_nil)
            (fun _ _ _ _ _ => pe_cmpR op_in_sign (pv 1) (pe_glob (v := .str letters) (by rfl) hL ⟨tl, rfl⟩) (by with_unfolding_all rfl))) pa_nil))
        (pe_one (pe_cmpR op_notIn_seq (pv 0) (pe_glob (v := .ref (He.ga K "WORDS")) (by rfl) hW rfl) (by with_unfolding_all rfl)))))), ?_⟩
    refine ⟨.str x, rfl, .str x, .ty "str", .type "str", .type "str", true, rfl, .ty "str", .base (.str x), kit_ty (by decide +kernel), _, rfl, ?_⟩
    have hz : x.length ≤ sizeLine := hp
    refine ⟨.str x, rfl, x, rfl, hz, 1, _, rfl, rfl, _, rfl, ?_⟩
    refine ite2 (fun e1 => ?_) (fun e1 => ?_)
    · have h1 : 1 ≤ (x.length : Int) := of_decide_eq_true e1
      refine ⟨_, _, rfl, rfl, _, rfl, ?_⟩
      refine ite2 (fun e2 => ?_) (fun e2 => ?_)
      · have h2 : ¬ (x.length : Int) ≤ 12 := by
          intro z
          rw [decide_eq_true z] at e2
          cases e2
        have n : isNm x = false := isNm_len (by omega)
        have q' := q H (Same.refl H)
        rw [n] at q'
        exact q'
      · have h2 : (x.length : Int) ≤ 12 := by
          by_cases z : (x.length : Int) ≤ 12
          · exact z
          · exact absurd (by rw [decide_eq_false z]; rfl) e2
        have hs : x.cps.toList.length = x.length := by simp [Str.length]
        refine ⟨.str x, rfl, x, rfl, fun D hD => lc_it (walk_str (z := x))
          (fun i H' => H' = upd H D (.lst ((x.cps.toList.take i).map fun c => V.bl (inLet c)))) rfl (fun _ _ _ _ => True.intro) ?_ ?_⟩
        · rintro i v H1 H2 hi rfl ⟨rfl, c, hc, rfl⟩
          refine ⟨rfl, ?_⟩
          have hc' : x.cps.toList[i]? = some c := by simpa using hc
          refine ⟨.str ⟨#[c]⟩, rfl, c, letters, rfl, rfl, _, upd_same, ?_, ?_⟩
          · rw [List.length_map, List.length_take, hs]
            exact Nat.lt_of_le_of_lt (Nat.min_le_right _ _) (small1000 (by omega))
          · rw [upd_upd, List.take_add_one, hc', List.map_append]
            rfl
        · rintro H1 rfl
          have et : x.cps.toList.take x.cps.size = x.cps.toList := List.take_of_length_le (by simp)
          refine ⟨D, x.cps.toList.map inLet, rfl, ?_, ?_⟩
          · rw [et]
            refine SqL.of ?_
            rw [upd_same, List.map_map]
            rfl
          · have sm : Same H (upd H D (.lst ((x.cps.toList.take x.cps.size).map fun c => V.bl (inLet c)))) := same_upd hD
            have ea : (x.cps.toList.map inLet).all id = x.cps.toList.all inLet := by
              rw [List.all_map]
              rfl
            refine ⟨_, rfl, ite2 (fun e3 => ?_) (fun e3 => ?_)⟩
            · refine ⟨.str x, rfl, _, _, rfl, .inr (sW _), rfl, words_flat, ?_⟩
              have q' := q _ sm
              rw [isNm_eq (by omega) (ea ▸ e3)] at q'
              exact q'
            · have q' := q _ sm
              rw [isNm_all (by rw [← ea]; exact Bool.eq_false_iff.mpr e3)] at q'
              exact q'
    · have h1 : ¬ 1 ≤ (x.length : Int) := fun z => e1 (decide_eq_true z)
      refine ⟨_, rfl, ?_⟩
      have n : isNm x = false := isNm_len (by omega)
      have q' := q H (Same.refl H)
      rw [n] at q'
      exact q'
end
end V5

set_option maxHeartbeats 2000000
/-! The readers of names, columns, lists. -/
namespace V5
open PySem PySem.Spec PyProof.Rows L2 K2

/-- a reader: what it reads is told by pre, what it returns by rep -/
def spR {α : Type} (K : PySem.W.Frag) (us : List V) (pre : α → List Tk → List Tk → Prop) (rep : Str → Hp → V → α → Prop) : Sp := fun vs H Q _ => ∃ p g d L L', vs = .ref p :: us ∧ Par K H p g L ∧ pre d L L' ∧
  ∀ H' v, St H H' → Par K H' p g L' → rep g.f (nw H H') v d → Q v H'
def PName (m : Mk) (L L' : List Tk) : Prop := L = (m.i, m.n) :: L' ∧ isNm m.n = true
def PTok (t : Str) (L L' : List Tk) : Prop := ∃ i, L = (i, t) :: L'
def PCol (c : Co) (L L' : List Tk) : Prop := ∃ L1 i L2, PName c.m L L1 ∧ PTok ":" L1 ((i, c.k) :: L2) ∧ (c.k = "number" ∨ c.k = "text") ∧ L2 = L'
theorem isNm_lt {x : Str} (h : isNm x = true) : x.length ≤ 12 := by
  unfold isNm at h
  simp only [Bool.and_eq_true, decide_eq_true_eq] at h
  exact h.1.1.2
section
variable {K : PySem.W.Frag} {mg : Str → Option Value} {C p : Addr} {g : Pg} {m : Str} {L : List Tk} {sp : Sp} {E : XK} {σ : L2.St} {H : Hp} {Q : VK}
theorem pm0 (hP : Par K H p g L) (hσ : σ[0]? = some (some (.ref p))) (hm : ∀ a b c d, (fPar a b c d).lookup m = none) (h : sp [.ref p] H Q E) : tMeth (cParser K) m sp [] E (tVar 0) tNil σ H Q := by
  obtain ⟨a, hp⟩ := par_ins hP
  exact ⟨.ref p, hσ, p, _, _, rfl, hp, hm _ _ _ _, h⟩
theorem pm1 {u : V} (hP : Par K H p g L) (hσ : σ[0]? = some (some (.ref p))) (hm : ∀ a b c d, (fPar a b c d).lookup m = none) (h : sp [.ref p, u] H Q E) : tMeth (cParser K) m sp [] E (tVar 0) (tCons (tC u) tNil) σ H Q := by
  obtain ⟨a, hp⟩ := par_ins hP
  exact ⟨.ref p, hσ, p, _, _, rfl, hp, hm _ _ _ _, h⟩
/-- a read token, looked at -/
theorem pTok {i : Nat} {s : Str} (hP : Par K H p g ((i, s) :: L)) (hσ : σ[0]? = some (some (.ref p))) (h : Q (.str s) H) : tMeth (cParser K) "token" (spToken K) [] E (tVar 0) tNil σ H Q :=
  pm0 hP hσ (fun _ _ _ _ => rfl) ⟨p, g, L, i, s, rfl, hP, h⟩
theorem pHere {i : Nat} {s : Str} (hP : Par K H p g ((i, s) :: L)) (hσ : σ[0]? = some (some (.ref p))) (h : Q (.int (i : Nat)) H) : tMeth (cParser K) "here" (spHere K) [] E (tVar 0) tNil σ H Q :=
  pm0 hP hσ (fun _ _ _ _ => rfl) ⟨p, g, L, i, s, rfl, hP, h⟩
theorem pTake {i : Nat} {s : Str} (hP : Par K H p g ((i, s) :: L)) (hσ : σ[0]? = some (some (.ref p))) (h : ∀ H', St H H' → Par K H' p g L → Q (.str s) H') : tMeth (cParser K) "take" (spTakeT K) [] E (tVar 0) tNil σ H Q :=
  pm0 hP hσ (fun _ _ _ _ => rfl) ⟨p, g, L, i, s, rfl, hP, h⟩
theorem pExp {s : Str} {L' : List Tk} (hP : Par K H p g L) (hL : PTok s L L') (hσ : σ[0]? = some (some (.ref p))) (h : ∀ H', St H H' → Par K H' p g L' → Q .non H') : tMeth (cParser K) "expect" (spExpect K) [] E (tVar 0) (tCons (tC (.str s)) tNil) σ H Q := by
  obtain ⟨i, rfl⟩ := hL
  exact pm1 hP hσ (fun _ _ _ _ => rfl) ⟨p, g, L', i, s, rfl, hP, h⟩
theorem pAccT {s : Str} {L' : List Tk} (hP : Par K H p g L) (hL : PTok s L L') (hσ : σ[0]? = some (some (.ref p))) (h : ∀ H', St H H' → Par K H' p g L' → Q (.bl true) H') : tMeth (cParser K) "accepts" (spAccepts K) [] E (tVar 0) (tCons (tC (.str s)) tNil) σ H Q := by
  obtain ⟨i, rfl⟩ := hL
  exact pm1 hP hσ (fun _ _ _ _ => rfl) ⟨p, g, L', i, s, s, rfl, hP, fun _ => h, fun n => absurd rfl n⟩
theorem pAccF {i : Nat} {s t : Str} {L' : List Tk} (hP : Par K H p g ((i, t) :: L')) (n : t ≠ s) (hσ : σ[0]? = some (some (.ref p))) (h : Q (.bl false) H) : tMeth (cParser K) "accepts" (spAccepts K) [] E (tVar 0) (tCons (tC (.str s)) tNil) σ H Q :=
  pm1 hP hσ (fun _ _ _ _ => rfl) ⟨p, g, L', i, t, s, rfl, hP, fun e => absurd e n, fun _ => h⟩
theorem pRd {α : Type} {pre : α → List Tk → List Tk → Prop} {rep : Str → Hp → V → α → Prop} {d : α} {L' : List Tk} (hP : Par K H p g L) (hσ : σ[0]? = some (some (.ref p))) (hm : ∀ a b c d, (fPar a b c d).lookup m = none) (hL : pre d L L')
    (h : ∀ H' v, St H H' → Par K H' p g L' → rep g.f (nw H H') v d → Q v H') : tMeth (cParser K) m (spR K [] pre rep) [] E (tVar 0) tNil σ H Q :=
  pm0 hP hσ hm ⟨p, g, d, L, L', rfl, hP, hL, h⟩
theorem pRd1 {α : Type} {u : V} {pre : α → List Tk → List Tk → Prop} {rep : Str → Hp → V → α → Prop} {d : α} {L' : List Tk} (hP : Par K H p g L) (hσ : σ[0]? = some (some (.ref p))) (hm : ∀ a b c d, (fPar a b c d).lookup m = none) (hL : pre d L L')
    (h : ∀ H' v, St H H' → Par K H' p g L' → rep g.f (nw H H') v d → Q v H') : tMeth (cParser K) m (spR K [u] pre rep) [] E (tVar 0) (tCons (tC u) tNil) σ H Q :=
  pm1 hP hσ hm ⟨p, g, d, L, L', rfl, hP, hL, h⟩
end
section
variable {P : Program} {w : World} {K : PySem.W.Frag} {mg : Str → Option Value} {base : Heap}
theorem ok_read_name (E : Env K mg) : FnOk P w K mg base CX0 4 (f_Parser_read_name K) (fd_Parser_read_name K) ["self"] (spR K [] PName fun _ => RMk K) := by
  refine E.F_Parser_read_name.ok sc_Parser_read_name (fun vs H Q E h => ?_) (fun cdv A outer s H vs Q E1 hr h => ?_)
  · obtain ⟨p, g, d, L, L', rfl, _⟩ := h
    rfl
  · obtain ⟨p, g, d, L, L', rfl, hP, ⟨rfl, hn⟩, q⟩ := h
    have GT : FnOk P w K mg base CX0 1 (f_Parser_token K) (fd_Parser_token K) ["self"] (spToken K) := ok_token E
    have GH : FnOk P w K mg base CX0 1 (f_Parser_here K) (fd_Parser_here K) ["self"] (spHere K) := ok_here E
    have GK : FnOk P w K mg base CX0 2 (f_Parser_take K) (fd_Parser_take K) ["self"] (spTakeT K) := ok_take_t E
    have GN : FnOk P w K mg base CX0 1 (f_is_name K) (fd_is_name K) ["value"] spName := ok_is_name E
    have GM : FnOk P w K mg base CX0 1 (f_Mark___init__ K) (fd_Mark___init__ K) ["self", "index", "name"] (spMark K) := ok_Mark E
    have C := E.C_Parser.c
    refine ⟨_, pss_cons (ps_if (pt_not (pt_val (pe_call GN (hr.mono (by decide)) (by rfl) E.D_is_name.g E.D_is_name.k E.D_is_name.b .nil pass0 (pa_cons (pe_meth0 (pv 0) C E.M_Parser_token.m GT (hr.mono (by decide)) E.M_Parser_token.b .nil pass0) pa_nil)))) (pss_one ps_never) pss_nil)
      (pss_one (ps_ret (pe_make E.C_Mark.k GM (hr.mono (by decide)) (by rfl) E.C_Mark.g E.C_Mark.b .nil pass0
        (pa_cons (pe_meth0 (pv 0) C E.M_Parser_here.m GH (hr.mono (by decide)) E.M_Parser_here.b .nil pass0) (pa_cons (pe_meth0 (pv 0) C E.M_Parser_take.m GK (hr.mono (by decide)) E.M_Parser_take.b .nil pass0) pa_nil))))), ?_⟩
    refine pTok hP rfl ⟨d.n, rfl, Nat.le_trans (isNm_lt hn) (by decide), fun H1 sm => ⟨_, rfl, ?_⟩⟩
    rw [hn]
    have hP1 := hP.same sm
    refine iteF (pHere hP1 rfl (pTake hP1 rfl fun H2 st hP2 => ?_))
    refine make_of (fl := fMark (.int d.i) (.str d.n)) (fun p' dx H3 h3 _ Q' q' => ⟨p', dx, _, _, rfl, h3, q'⟩) fun x dx H3 sm3 hx h3 => ?_
    have s3 := (St.same sm).trans st
    exact q H3 (.ref x) (s3.trans (St.same sm3)) (hP2.same sm3) ⟨x, dx, rfl, nw_at (s3.nn hx) h3⟩
theorem ok_read_column (E : Env K mg) : FnOk P w K mg base CX0 5 (f_Parser_read_column K) (fd_Parser_read_column K) ["self"] (spR K [] PCol fun _ => RCo K) := by
  refine E.F_Parser_read_column.ok sc_Parser_read_column (fun vs H Q E h => ?_) (fun cdv A outer s H vs Q E1 hr h => ?_)
  · obtain ⟨p, g, d, L, L', rfl, _⟩ := h
    rfl
  · obtain ⟨p, g, d, L, L', rfl, hP, ⟨L1, i, L2, h1, h2, h3, rfl⟩, q⟩ := h
    have GT : FnOk P w K mg base CX0 1 (f_Parser_token K) (fd_Parser_token K) ["self"] (spToken K) := ok_token E
    have GE : FnOk P w K mg base CX0 2 (f_Parser_expect K) (fd_Parser_expect K) ["self", "token"] (spExpect K) := ok_expect E
    have GK : FnOk P w K mg base CX0 2 (f_Parser_take K) (fd_Parser_take K) ["self"] (spTakeT K) := ok_take_t E
    have GN : FnOk P w K mg base CX0 4 (f_Parser_read_name K) (fd_Parser_read_name K) ["self"] (spR K [] PName fun _ => RMk K) := ok_read_name E
    have GC : FnOk P w K mg base CX0 1 (f_Column___init__ K) (fd_Column___init__ K) ["self", "mark", "kind"] (spColumn K) := ok_Column E
    have C := E.C_Parser.c
    refine ⟨_, pss_cons (ps_set (i := 1) sc_Parser_read_column.nd rfl (.inl rfl) (pe_meth0 (pv 0) C E.M_Parser_read_name.m GN hr E.M_Parser_read_name.b .nil pass0))
      (pss_cons (ps_expr (pe_meth (pv 0) C E.M_Parser_expect.m GE (hr.mono (by decide)) E.M_Parser_expect.b .nil pass0 (pa_cons pe_str pa_nil)))
      (pss_cons (ps_if (pt_cmpR op_notIn_seq (pe_meth0 (pv 0) C E.M_Parser_token.m GT (hr.mono (by decide)) E.M_Parser_token.b .nil pass0) (pe_tup (pa_cons pe_str (pa_cons pe_str pa_nil))) (by with_unfolding_all rfl)) (pss_one ps_never) pss_nil)
      (pss_one (ps_ret (pe_make E.C_Column.k GC (hr.mono (by decide)) (by rfl) E.C_Column.g E.C_Column.b .nil pass0
        (pa_cons (pv 1) (pa_cons (pe_meth0 (pv 0) C E.M_Parser_take.m GK (hr.mono (by decide)) E.M_Parser_take.b .nil pass0) pa_nil))))))), ?_⟩
    refine pRd hP rfl (fun _ _ _ _ => rfl) h1 fun H1 v st1 P1 r1 => ?_
    refine pExp P1 h2 rfl fun H2 st2 P2 => ?_
    refine pTok P2 rfl ⟨by show 2 ≤ sizeLine; decide, fun t ht => ?_⟩
    have sm3 : Same H2 (upd H2 t (.tup [.str "number", .str "text"])) := same_upd ht
    refine ⟨t, _, rfl, .inr (SqT.of upd_same), rfl, rfl, _, rfl, ?_⟩
    have hin : inV (.str d.k) [.str "number", .str "text"] = true := by
      rcases h3 with e | e <;> rw [e] <;> decide +kernel
    rw [hin]
    generalize upd H2 t (.tup [.str "number", .str "text"]) = H3 at sm3 ⊢
    refine iteF ⟨_, rfl, pTake (P2.same sm3) rfl fun H4 st4 P4 => ?_⟩
    have r4 := (r1.st (St.same nw_same)).st (st2.trans ((St.same sm3).trans st4))
    obtain ⟨mp, md, rfl, hm⟩ := r4
    refine make_of (fl := fCol (.int d.m.i) (.str d.m.n) (.str d.k)) (fun p' dx H5 h5 sm5 Q' q' => ⟨p', dx, _, mp, md, _, _, rfl, h5, sm5 _ _ hm, q'⟩) fun x dx H5 sm5 hx h5 => ?_
    have s5 := st1.trans (st2.trans ((St.same sm3).trans st4))
    exact q H5 (.ref x) (s5.trans (St.same sm5)) (P4.same sm5) ⟨x, dx, rfl, nw_at (s5.nn hx) h5⟩
end
end V5

set_option maxHeartbeats 2000000
/-! The readers of lists' declarations, numbers. -/
namespace V5
open PySem PySem.Spec PyProof.Rows L2 K2

def tNot : TE := fun _ _ _ => False
theorem pe_never {X : Cx} {e : Expr} : PE X e tNot := ⟨fun _ _ _ _ _ _ h => h.elim⟩
def PMore : List Co → List Tk → List Tk → Prop
  | [], L, L' => L = L'
  | c :: r, L, L' => ∃ L1 L2, PTok "," L L1 ∧ PCol c L1 L2 ∧ PMore r L2 L'
def PCols (cs : List Co) (L L' : List Tk) : Prop := ∃ c r L1 L2 L3, cs = c :: r ∧ PTok "(" L L1 ∧ PCol c L1 L2 ∧ PMore r L2 L3 ∧ PTok ")" L3 L' ∧ cs.length ≤ 1000
def RCs (K : PySem.W.Frag) (H : Hp) (v : V) (cs : List Co) : Prop := ∃ l cvs, v = .ref l ∧ H l = some (.lst cvs) ∧ A2 (RCo K H) cvs cs
def PSk (s : Sk) (L L' : List Tk) : Prop := ∃ L1 L2 L3 L4, PTok "list" L L1 ∧ PName s.m L1 L2 ∧ PCols s.cs L2 L3 ∧ PTok "[" L3 L4 ∧ PTok "]" L4 L'
theorem RCs.st {K : PySem.W.Frag} {H H' : Hp} (s : St H H') {v : V} {cs : List Co} : RCs K H v cs → RCs K H' v cs := fun ⟨l, cvs, e, h, r⟩ => ⟨l, cvs, e, s.at h rfl, r.imp fun _ _ x => x.st s⟩
theorem Par.own {K : PySem.W.Frag} {H : Hp} {p l : Addr} {g : Pg} {L : List Tk} {xs ys : List V} (hP : Par K H p g L) (hl : H l = some (.lst xs)) (n : g.l ≠ l) : Par K (upd H l (.lst ys)) p g L := by
  obtain ⟨a, hp, hl', tk, hd, ha, hb⟩ := hP
  exact ⟨a, by rw [upd_ne (by rintro rfl; rw [hl] at hp; cases hp)]; exact hp, by rw [upd_ne n]; exact hl', tk.imp fun _ _ ⟨q, e, h⟩ => ⟨q, e, by
    rw [upd_ne (by rintro rfl; rw [hl] at h; cases h)]
    exact h⟩, hd, ha, hb⟩
theorem Par.ne {K : PySem.W.Frag} {H : Hp} {p l : Addr} {g : Pg} {L : List Tk} (hP : Par K H p g L) (n : H l = none) : g.l ≠ l := by
  obtain ⟨a, hp, hl, _⟩ := hP
  rintro rfl
  rw [hl] at n
  cases n
theorem PCol.hd {c : Co} {L L' : List Tk} (h : PCol c L L') : ∃ i s M, L = (i, s) :: M ∧ isNm s = true := by
  obtain ⟨L1, i, L2, ⟨e, n⟩, _⟩ := h
  exact ⟨_, _, _, e, n⟩
section
variable {P : Program} {w : World} {K : PySem.W.Frag} {mg : Str → Option Value} {base : Heap}
theorem ok_read_columns (E : Env K mg) : FnOk P w K mg base CX0 6 (f_Parser_read_columns K) (fd_Parser_read_columns K) ["self"] (spR K [] PCols fun _ => RCs K) := by
  refine E.F_Parser_read_columns.ok sc_Parser_read_columns (fun vs H Q E h => ?_) (fun cdv A outer s H vs Q E1 hr h => ?_)
  · obtain ⟨p, g, d, L, L', rfl, _⟩ := h
    rfl
  · obtain ⟨p, g, d, L, L', rfl, hP, ⟨c, r, L1, L2, L3, rfl, h1, h2, h3, h4, hlen⟩, q⟩ := h
    have GT : FnOk P w K mg base CX0 1 (f_Parser_token K) (fd_Parser_token K) ["self"] (spToken K) := ok_token E
    have GE : FnOk P w K mg base CX0 2 (f_Parser_expect K) (fd_Parser_expect K) ["self", "token"] (spExpect K) := ok_expect E
    have GA : FnOk P w K mg base CX0 2 (f_Parser_accepts K) (fd_Parser_accepts K) ["self", "token"] (spAccepts K) := ok_accepts E
    have GC : FnOk P w K mg base CX0 5 (f_Parser_read_column K) (fd_Parser_read_column K) ["self"] (spR K [] PCol fun _ => RCo K) := ok_read_column E
    have C := E.C_Parser.c
    refine ⟨_, pss_cons (ps_expr (pe_meth (pv 0) C E.M_Parser_expect.m GE (hr.mono (by decide)) E.M_Parser_expect.b .nil pass0 (pa_cons pe_str pa_nil)))
      (pss_cons (ps_set (i := 1) sc_Parser_read_columns.nd rfl (.inl rfl) (pe_lst pa_nil))
      (pss_cons (ps_if (pt_cmpR op_ne (pe_meth0 (pv 0) C E.M_Parser_token.m GT (hr.mono (by decide)) E.M_Parser_token.b .nil pass0) pe_str (nomark _))
        (pss_cons (ps_expr (pe_bm PySem.F.plainAttrs_list PySem.F.slot_list_append PySem.F.type_list_append mt_append (pv 1) (pa_cons (pe_meth0 (pv 0) C E.M_Parser_read_column.m GC hr E.M_Parser_read_column.b .nil pass0) pa_nil)))
        (pss_one (ps_while PassesOwn.never (pt_val (pe_meth (pv 0) C E.M_Parser_accepts.m GA (hr.mono (by decide)) E.M_Parser_accepts.b .nil pass0 (pa_cons pe_str pa_nil)))
          (pss_one (ps_expr (pe_bm PySem.F.plainAttrs_list PySem.F.slot_list_append PySem.F.type_list_append mt_append (pv 1) (pa_cons (pe_meth0 (pv 0) C E.M_Parser_read_column.m GC hr E.M_Parser_read_column.b .nil pass0) pa_nil))))))) pss_nil)
      (pss_cons (ps_expr (pe_meth (pv 0) C E.M_Parser_expect.m GE (hr.mono (by decide)) E.M_Parser_expect.b .nil pass0 (pa_cons pe_str pa_nil)))
      (pss_one (ps_ret (pv 1)))))), ?_⟩
    refine pExp hP h1 rfl fun H1 st1 P1 => ?_
    refine ⟨by decide, fun l hl => ?_⟩
    have gl := P1.ne hl
    have P2 := P1.same (same_new (o := .lst []) hl)
    have st2 : St H (upd H1 l (.lst [])) := st1.trans (St.same (same_new hl))
    have lN : H l = none := st1.nn hl
    have l2 : (upd H1 l (.lst [])) l = some (.lst []) := upd_same
    generalize upd H1 l (.lst []) = H2 at P2 st2 l2 ⊢
    obtain ⟨i0, s0, M, eL, nm⟩ := h2.hd
    have ns : s0 ≠ ")" := by
      rintro rfl
      exact absurd nm (by decide +kernel)
    subst eL
    refine pTok P2 rfl ⟨rfl, _, rfl, ?_⟩
    rw [dec_str, decide_eq_false ns]
    refine iteT ⟨_, rfl, .inl ⟨rfl, _, SqL.of l2⟩, ?_⟩
    refine pRd P2 rfl (fun _ _ _ _ => rfl) h2 fun H3 v st3 P3 r3 => ?_
    have l3 := st3.at l2 rfl
    refine ⟨l, [], v, rfl, rfl, l3, by decide, ?_⟩
    have P4 := P3.own (ys := [] ++ [v]) l3 gl
    have st4 : St H (upd H3 l (.lst ([] ++ [v]))) := (st2.trans st3).own lN
    have l4 : (upd H3 l (.lst ([] ++ [v]))) l = some (.lst ([] ++ [v])) := upd_same
    have r4 : A2 (RCo K (nw H2 (upd H3 l (.lst ([] ++ [v]))))) ([] ++ [v]) [c] := by
      rw [nw_own l2]
      exact .cons r3 .nil
    have t4 : Tr H2 (upd H3 l (.lst ([] ++ [v]))) := st3.tr.put
    generalize upd H3 l (.lst ([] ++ [v])) = H4 at P4 st4 l4 r4 t4 ⊢
    refine ⟨fun m σ H' => ∃ (r' : List Co) (L4 : List Tk) (cvs : List V) (done : List Co), m = r'.length ∧ σ = [some (.ref p), some (.ref l)] ∧ St H H' ∧ Par K H' p g L4 ∧ H' l = some (.lst cvs) ∧ A2 (RCo K (nw H2 H')) cvs done ∧ done ++ r' = c :: r ∧ PMore r' L4 L3 ∧ Tr H2 H',
      ⟨_, r, L2, _, [c], rfl, rfl, st4, P4, l4, r4, rfl, h3, t4⟩, ?_⟩
    rintro m σ H5 ⟨r', L4, cvs, done, rfl, rfl, st5, P5, l5, r5, ed, h5, t5⟩
    cases r' with
    | nil =>
      have e5 : L4 = L3 := h5
      subst e5
      obtain ⟨i4, rfl⟩ := h4
      refine pAccF P5 (by decide +kernel) rfl ⟨_, rfl, iteF ?_⟩
      refine pExp P5 ⟨i4, rfl⟩ rfl fun H6 st6 P6 => ?_
      refine ⟨_, rfl, q H6 _ (st5.trans st6) P6 ⟨l, cvs, rfl, nw_at lN (st6.at l5 rfl), ?_⟩⟩
      rw [List.append_nil] at ed
      rw [← ed]
      exact r5.imp fun _ _ x => x.st (nw_st st2.tr st6)
    | cons c' r' =>
      obtain ⟨L5, L6, h6, h7, h8⟩ := h5
      refine pAccT P5 h6 rfl fun H6 st6 P6 => ⟨_, rfl, iteT ?_⟩
      refine ⟨fun σ' H' => ∃ m', m' < r'.length + 1 ∧ ∃ (r' : List Co) (L4 : List Tk) (cvs : List V) (done : List Co), m' = r'.length ∧ σ' = [some (.ref p), some (.ref l)] ∧ St H H' ∧ Par K H' p g L4 ∧ H' l = some (.lst cvs) ∧ A2 (RCo K (nw H2 H')) cvs done ∧ done ++ r' = c :: r ∧ PMore r' L4 L3 ∧ Tr H2 H', fun _ _ w => w, ?_⟩
      have l6 := st6.at l5 rfl
      refine ⟨_, rfl, .inl ⟨rfl, _, SqL.of l6⟩, ?_⟩
      refine pRd P6 rfl (fun _ _ _ _ => rfl) h7 fun H7 v' st7 P7 r7 => ?_
      have l7 := st7.at l6 rfl
      have len : cvs.length < sizeLine := by
        have := congrArg List.length ed
        rw [List.length_append, List.length_cons] at this
        have e2 := r5.len
        have : cvs.length ≤ 1000 := by omega
        exact small1000 this
      refine ⟨l, cvs, v', rfl, rfl, l7, len, r'.length, Nat.lt_succ_self _, r', L6, cvs ++ [v'], done ++ [c'], rfl, rfl, (st5.trans (st6.trans st7)).own lN, P7.own l7 gl, upd_same, ?_, by rw [List.append_assoc]; exact ed, h8, (t5.trans (st6.tr.trans st7.tr)).put⟩
      rw [nw_own l2]
      exact (r5.imp fun _ _ x => x.st (nw_st (Tr.refl _) (st6.trans st7))).snoc (r7.st (nw_st (t5.trans st6.tr) (St.refl _)))
end
end V5

set_option maxHeartbeats 2000000
/-! Bodies and files' trees are made. -/
namespace V5
open PySem PySem.Spec PyProof.Rows L2 K2

/-- a dict by a comprehension over a walk -/
theorem dict_it {J : It} {n : Nat} {G : Hp → Prop} {Y : Nat → Hp → V → Hp → Prop} (w : Walk J n G Y) {g : TG} {tt : TT} {tk tv : TE} {vs : List Nat} {σ : L2.St} {H1 : Hp} {D : Addr} {Qd : Hp → Prop} (Pv : Nat → Hp → Prop)
    (h0 : Pv 0 (upd H1 D (.dK []))) (hG : ∀ i H, i ≤ n → Pv i H → G H)
    (hs : ∀ i x H H', i < n → Pv i H → Y i H x H' → g x (wipe σ vs) H' fun σ2 H2 => wipe σ2 vs = wipe σ vs ∧ tt σ2 H2 fun b H3 =>
      if b = true then tk σ2 H3 fun y H4 => tv σ2 H4 fun z H5 => ∃ kvs k, y = kV k ∧ H5 D = some (.dK kvs) ∧ kvs.length < sizeLine ∧ Pv (i + 1) (upd H5 D (.dK (putK kvs k z))) else Pv (i + 1) H3) (hd : ∀ H, Pv n H → Qd H) :
    ∃ W : Nat → Nat → Hp → Prop, (∃ m, W 0 m (upd H1 D (.dK []))) ∧ ∀ i m H, W i m H →
      (J.stop i H ∧ Qd H) ∨ (J.go i H ∧ ∃ Nx : Hp → Prop, (∀ H', Nx H' → ∃ m', m' < m ∧ W (i + 1) m' H') ∧ ∀ x H', J.yld i H x H' → g x (wipe σ vs) H' fun σ2 H2 => wipe σ2 vs = wipe σ vs ∧ tt σ2 H2 fun b H3 =>
        if b = true then tk σ2 H3 fun y H4 => tv σ2 H4 fun z H5 => ∃ kvs k, y = kV k ∧ H5 D = some (.dK kvs) ∧ kvs.length < sizeLine ∧ Nx (upd H5 D (.dK (putK kvs k z))) else Nx H3) := by
  refine ⟨fun i m H => i ≤ n ∧ m = n - i ∧ Pv i H, ⟨n, Nat.zero_le _, rfl, h0⟩, ?_⟩
  rintro i m H ⟨le, rfl, pv⟩
  have gg := hG i H le pv
  rcases Nat.lt_or_ge i n with lt | ge
  · exact .inr ⟨w.goes i H lt gg, Pv (i + 1), fun H' z => ⟨n - (i + 1), by omega, lt, rfl, z⟩, fun x H' y => hs i x H H' lt pv (w.yields i H x H' lt gg y)⟩
  · have e : i = n := Nat.le_antisymm le ge
    subst e
    exact .inl ⟨w.stops H gg, hd H pv⟩
theorem nmd_len (ps : List (V × Str)) (k0 : List (Key × V)) : (ps.foldl (fun k p => putK k (.inr p.2) p.1) k0).length ≤ k0.length + ps.length := by
  induction ps generalizing k0 with
  | nil => exact Nat.le_refl _
  | cons p r ih =>
    rw [List.foldl_cons, List.length_cons]
    have h1 := ih (putK k0 (.inr p.2) p.1)
    have h2 := length_putK k0 (Sum.inr p.2 : Key) p.1
    omega
/-- an entry's name -/
def REnN (K : PySem.W.Frag) (H : Hp) (v : V) (n : Str) : Prop := ∃ pe de a b c, v = .ref pe ∧ H pe = some (.ins (cEntry K) de (fEnt a (.str n) b c))
theorem A2.mapR {α β γ : Type} {R : α → β → Prop} {S : α → γ → Prop} {f : β → γ} (h : ∀ a b, R a b → S a (f b)) : ∀ {as : List α} {bs : List β}, A2 R as bs → A2 S as (bs.map f)
  | _, _, .nil => .nil
  | _, _, .cons x r => .cons (h _ _ x) (r.mapR h)
def spBody (K : PySem.W.Frag) : Sp := fun vs H Q _ => ∃ (p dx l : Addr) (i : Nat) (d : Bool) (evs : List V) (es : List En), vs = [.ref p, .int i, .bl d, .ref l] ∧ H p = some (.ins (cBody K) dx []) ∧ H l = some (.lst evs) ∧ A2 (REn K H) evs es ∧ es.length ≤ 1000 ∧
  ∀ H' nd, Kept p H H' → H nd = none → H' p = some (.ins (cBody K) dx (fBody (.int i) (.bl d) (.ref l) (.ref nd))) → H' nd = some (.dK (nmd (evs.zip (es.map fun e => e.m.n)))) → Q .non H'
def spTree (K : PySem.W.Frag) : Sp := fun vs H Q _ => ∃ (p dx : Addr) (f : V), vs = [.ref p, f] ∧ H p = some (.ins (cFileTree K) dx []) ∧
  ∀ H' li ld, Kept p H H' → H li = none → H ld = none → li ≠ ld → H' p = some (.ins (cFileTree K) dx (fTree f (.ref li) (.ref ld) .non)) → H' li = some (.lst []) → H' ld = some (.lst []) → Q .non H'
section
variable {P : Program} {w : World} {K : PySem.W.Frag} {mg : Str → Option Value} {base : Heap}
theorem ok_Tree (E : Env K mg) : FnOk P w K mg base CX0 1 (f_FileTree___init__ K) (fd_FileTree___init__ K) ["self", "name"] (spTree K) := by
  refine E.F_FileTree___init__.ok sc_FileTree___init__ (fun vs H Q E h => ?_) (fun cdv A outer s H vs Q E1 hr h => ?_)
  · obtain ⟨p, dx, f, rfl, _⟩ := h
    rfl
  · obtain ⟨p, dx, f, rfl, hp, q⟩ := h
    refine ⟨_, pss_cons (ps_fld (pv 0) (pv 1) rfl) (pss_cons (ps_fld (pv 0) (pe_lst pa_nil) rfl) (pss_cons (ps_fld (pv 0) (pe_lst pa_nil) rfl) (pss_one (ps_fld (pv 0) pe_non rfl)))), ?_⟩
    have C := E.C_FileTree.c
    refine ⟨_, rfl, _, rfl, p, _, dx, _, rfl, hp, C, E.n_FileTree_name, (by exact (by decide : 0 < 1000)), ?_⟩
    have k1 : Kept p H (upd H p (.ins (cFileTree K) dx (putF "name" f []))) := (Kept.refl p H).upd
    have e1 : (upd H p (.ins (cFileTree K) dx (putF "name" f []))) p = some (.ins (cFileTree K) dx [("name", f)]) := upd_same
    have u1 : ∀ b, (upd H p (.ins (cFileTree K) dx (putF "name" f []))) b = none → H b = none := fun b z => by
      by_cases n : b = p
      · subst n
        rw [upd_same] at z
        cases z
      · rw [upd_ne n] at z
        exact z
    generalize upd H p (.ins (cFileTree K) dx (putF "name" f [])) = H1 at k1 e1 u1 ⊢
    refine ⟨by decide, fun li hli => ?_⟩
    have nli : li ≠ p := (ne_of_none e1 hli).symm
    refine ⟨_, rfl, p, _, dx, _, rfl, (same_new hli) _ _ e1, C, E.n_FileTree_imports, (by exact (by decide : 1 < 1000)), ?_⟩
    have k2 : Kept p H (upd (upd H1 li (.lst [])) p (.ins (cFileTree K) dx (putF "\x69mports" (.ref li) [("name", f)]))) := (k1.trans fun a o e _ => (same_new hli) a o e).upd
    have e2 : (upd (upd H1 li (.lst [])) p (.ins (cFileTree K) dx (putF "\x69mports" (.ref li) [("name", f)]))) p = some (.ins (cFileTree K) dx [("name", f), ("\x69mports", .ref li)]) := upd_same
    have l2 : (upd (upd H1 li (.lst [])) p (.ins (cFileTree K) dx (putF "\x69mports" (.ref li) [("name", f)]))) li = some (.lst []) := by rw [upd_ne nli, upd_same]
    have u2 : ∀ b, (upd (upd H1 li (.lst [])) p (.ins (cFileTree K) dx (putF "\x69mports" (.ref li) [("name", f)]))) b = none → H b = none := fun b z => by
      by_cases n : b = p
      · subst n
        rw [upd_same] at z
        cases z
      · rw [upd_ne n] at z
        by_cases n2 : b = li
        · subst n2
          rw [upd_same] at z
          cases z
        · rw [upd_ne n2] at z
          exact u1 b z
    generalize upd (upd H1 li (.lst [])) p (.ins (cFileTree K) dx (putF "\x69mports" (.ref li) [("name", f)])) = H2 at k2 e2 l2 u2 ⊢
    refine ⟨by decide, fun ld hld => ?_⟩
    have nld : ld ≠ p := (ne_of_none e2 hld).symm
    have nn : li ≠ ld := ne_of_none l2 hld
    refine ⟨_, rfl, p, _, dx, _, rfl, (same_new hld) _ _ e2, C, E.n_FileTree_declared, (by exact (by decide : 2 < 1000)), ?_⟩
    refine ⟨_, rfl, p, _, dx, _, rfl, upd_same, C, E.n_FileTree_document, (by exact (by decide : 3 < 1000)), ?_⟩
    refine q _ li ld ((k2.trans fun a o e _ => (same_new hld) a o e).upd.upd) (u1 _ hli) (u2 _ hld) nn upd_same ?_ ?_
    · rw [upd_ne nli, upd_ne nli, upd_ne nn]
      exact l2
    · rw [upd_ne nld, upd_ne nld, upd_same]
theorem ok_Body (E : Env K mg) : FnOk P w K mg base CX0 1 (f_Body___init__ K) (fd_Body___init__ K) ["self", "index", "declaring", "entries"] (spBody K) := by
  refine E.F_Body___init__.ok sc_Body___init__ (fun vs H Q E h => ?_) (fun cdv A outer s H vs Q E1 hr h => ?_)
  · obtain ⟨p, dx, l, i, d, evs, es, rfl, _⟩ := h
    rfl
  · obtain ⟨p, dx, l, i, d, evs, es, rfl, hp, hl, re, hn, q⟩ := h
    have C := E.C_Body.c
    refine ⟨_, pss_cons (ps_fld (pv 0) (pv 1) rfl) (pss_cons (ps_fld (pv 0) (pv 2) rfl) (pss_cons (ps_fld (pv 0) (pv 3) rfl)
      (pss_one (ps_fld (pv 0) (pe_dc (own := [("entry", 4)]) (g := gName 4) (tt := tYes) rfl sc_Body___init__.nd (pi_list (pe_revL (pv 3)))
        (blkOk_by (N := ["self", "index", "declaring", "entries", "entry"]) (sc := defScope s_Body___init__) (by decide +kernel))
        (fun _ _ _ _ _ => pg_name (i := 4) sc_Body___init__.nd rfl (Or.inl rfl)) (fun _ _ _ _ _ => pts_nil)
        (fun _ _ _ _ _ => show PE _ _ (tFld K (tVar 4) "name") from pe_fld (pv 4) rfl) (fun _ _ _ _ _ => pv 4)) rfl)))), ?_⟩
    have lp : l ≠ p := by
      rintro rfl
      rw [hl] at hp
      cases hp
    refine ⟨_, rfl, _, rfl, p, _, dx, _, rfl, hp, C, E.n_Body_index, (by exact (by decide : 0 < 1000)), ?_⟩
    refine ⟨_, rfl, _, rfl, p, _, dx, _, rfl, upd_same, C, E.n_Body_declaring, (by exact (by decide : 1 < 1000)), ?_⟩
    refine ⟨_, rfl, _, rfl, p, _, dx, _, rfl, upd_same, C, E.n_Body_entries, (by exact (by decide : 2 < 1000)), ?_⟩
    have k3 := ((((Kept.refl p H).upd (o := .ins (cBody K) dx (putF "index" (.int i) []))).upd (o := .ins (cBody K) dx (putF "declaring" (.bl d) (putF "index" (.int i) [])))).upd (o := .ins (cBody K) dx (putF "entries" (.ref l) (putF "declaring" (.bl d) (putF "index" (.int i) [])))))
    have e3 : (upd (upd (upd H p (.ins (cBody K) dx (putF "index" (.int i) []))) p (.ins (cBody K) dx (putF "declaring" (.bl d) (putF "index" (.int i) [])))) p (.ins (cBody K) dx (putF "entries" (.ref l) (putF "declaring" (.bl d) (putF "index" (.int i) []))))) p = some (.ins (cBody K) dx [("index", .int i), ("declaring", .bl d), ("entries", .ref l)]) := upd_same
    have u3 : ∀ b, b ≠ p → (upd (upd (upd H p (.ins (cBody K) dx (putF "index" (.int i) []))) p (.ins (cBody K) dx (putF "declaring" (.bl d) (putF "index" (.int i) [])))) p (.ins (cBody K) dx (putF "entries" (.ref l) (putF "declaring" (.bl d) (putF "index" (.int i) []))))) b = H b := fun b n => by rw [upd_ne n, upd_ne n, upd_ne n]
    generalize upd (upd (upd H p _) p _) p _ = H3 at k3 e3 u3 ⊢
    have l3 : H3 l = some (.lst evs) := by rw [u3 l lp]; exact hl
    have r3 : A2 (REnN K H3) evs (es.map fun e => e.m.n) := (re.mapR fun v e ⟨pe, de, vv, ev, h, rv⟩ => ⟨pe, de, _, _, vv, ev, by
      rw [u3 pe (by
        intro z
        rw [z, hp] at h
        have z2 := (HO.ins.inj (Option.some.inj h)).2.2
        cases z2)]
      exact h⟩)
    refine ⟨_, rfl, l, evs, rfl, SqL.of l3, fun r hr0 => ?_⟩
    have sm4 : Same H3 (upd H3 r (.lst evs.reverse)) := same_new hr0
    have r4 := r3.imp fun v n (⟨pe, de, a, b, c, ev, h⟩ : REnN K H3 v n) => (⟨pe, de, a, b, c, ev, sm4 _ _ h⟩ : REnN K (upd H3 r (.lst evs.reverse)) v n)
    have l4 : (upd H3 r (.lst evs.reverse)) r = some (.lst evs.reverse) := upd_same
    have e4 := sm4 _ _ e3
    have k4 : Kept p H (upd H3 r (.lst evs.reverse)) := k3.trans fun a o e _ => sm4 _ _ e
    generalize upd H3 r (.lst evs.reverse) = H4 at r4 l4 e4 k4 ⊢
    have le : evs.length = es.length := re.len
    have lz : (evs.zip (es.map fun e => e.m.n)).length = evs.length := by
      rw [List.length_zip, List.length_map]
      omega
    refine ⟨r, rfl, ⟨_, SqL.of l4⟩, fun D hD => ?_⟩
    refine dict_it (walk_list (K := K) (a := r) (xs := evs.reverse)) (fun i H' => H' = upd H4 D (.dK (((evs.zip (es.map fun e => e.m.n)).reverse.take i).foldl (fun k p => putK k (.inr p.2) p.1) []))) rfl
      (fun i H' _ e => by rw [e]; exact SqL.of (same_new hD _ _ l4)) ?_ ?_
    · rintro i v H5 H6 hi rfl ⟨rfl, hv⟩
      refine ⟨rfl, ?_⟩
      rw [List.length_reverse] at hi
      rw [List.getElem?_reverse hi] at hv
      obtain ⟨n, hnn, pe, de, a, b, c, rfl, h⟩ := r4.getL hv
      have hz : (evs.zip (es.map fun e => e.m.n)).reverse[i]? = some (.ref pe, n) := by
        rw [List.getElem?_reverse (by omega), show (evs.zip (es.map fun e => e.m.n)).length - 1 - i = evs.length - 1 - i by omega]
        exact List.getElem?_zip_eq_some.mpr ⟨hv, hnn⟩
      refine ⟨.ref pe, rfl, pe, _, de, _, .str n, rfl, same_new hD _ _ h, E.C_Entry.c, E.n_Entry_name, rfl, .ref pe, rfl, _, .inr n, rfl, upd_same, ?_, ?_⟩
      · refine Nat.lt_of_le_of_lt (nmd_len _ _) (small1000 ?_)
        rw [List.length_nil, List.length_take, List.length_reverse]
        omega
      · rw [upd_upd, List.take_add_one, hz, List.foldl_append]
        rfl
    · rintro H5 rfl
      rw [List.length_reverse, List.take_of_length_le (by rw [List.length_reverse]; omega)]
      refine ⟨_, rfl, p, _, dx, _, rfl, same_new hD _ _ e4, C, E.n_Body_named, (by exact (by decide : 3 < 1000)), ?_⟩
      have nD : D ≠ p := (ne_of_none e4 hD).symm
      have hDn : H D = none := by
        cases z : H D with
        | none => rfl
        | some o => exact absurd (k4 _ _ z nD) (by rw [hD]; exact fun z => nomatch z)
      refine q _ D (k4.trans fun a o e _ => same_new hD _ _ e).upd hDn upd_same ?_
      rw [upd_ne nD, upd_same]
      rfl
end
end V5

set_option maxHeartbeats 2000000
/-! number_in. -/
namespace K2
open PySem PySem.Spec PyProof.Rows L2
open PySem.NumText (digitsVal AllDigits)
theorem cp_of (l : List Nat) : cp ⟨l.toArray⟩ = l := by simp [cp]
/-- a part of a text, its end perhaps behind it -/
theorem cut_any (x : Str) (a b : Nat) (h1 : a ≤ (cp x).length) : cp (cutS x (some (a : Int)) (some ((a + b : Nat) : Int))) = ((cp x).drop a).take b := by
  have ll := cp_len x
  unfold cutS
  rw [HT.sIx_nat, HT.sIx_nat, cp_of]
  have e0 : x.cps.toList = cp x := rfl
  have e1 : min a x.length = a := by omega
  rw [e0, e1]
  by_cases h : a + b ≤ x.length
  · rw [show min (a + b) x.length = a + b by omega, show a + b - a = b by omega]
  · rw [show min (a + b) x.length = x.length by omega, List.take_of_length_le (by rw [List.length_drop]; omega), List.take_of_length_le (by rw [List.length_drop]; omega)]
theorem val_from (b : List Nat) : ∀ n : Nat, b.foldl (fun acc c => acc * 10 + (c - 48)) n = n * 10 ^ b.length + digitsVal b := by
  induction b with
  | nil => intro n; show n = n * 1 + 0; omega
  | cons c r ih =>
    intro n
    unfold digitsVal
    rw [List.foldl_cons, List.foldl_cons, ih, ih (0 * 10 + (c - 48)), List.length_cons, Nat.pow_succ]
    generalize digitsVal r = v
    generalize hz : 10 ^ r.length = z
    rw [Nat.add_mul, Nat.zero_mul, Nat.zero_add, Nat.mul_assoc, Nat.mul_comm 10 z]
    omega
theorem val_app (a b : List Nat) : digitsVal (a ++ b) = digitsVal a * 10 ^ b.length + digitsVal b := by
  unfold digitsVal
  rw [List.foldl_append, val_from]
  rfl
theorem val_lt : ∀ {a : List Nat}, AllDigits a → digitsVal a < 10 ^ a.length := by
  intro a
  induction a with
  | nil => intro _; decide
  | cons c r ih =>
    intro h
    have h1 := h c List.mem_cons_self
    have h2 := ih fun d hd => h d (List.mem_cons_of_mem _ hd)
    have e := val_app [c] r
    rw [show [c] ++ r = c :: r from rfl] at e
    rw [e, List.length_cons, Nat.pow_succ, show digitsVal [c] = c - 48 by simp [digitsVal]]
    generalize 10 ^ r.length = z at h2 ⊢
    have : (c - 48) * z ≤ 9 * z := Nat.mul_le_mul_right _ (by omega)
    omega
theorem cut_lo (x : Str) (b : Nat) : cp (cutS x none (some (b : Int))) = (cp x).take b := by
  have ll := cp_len x
  unfold cutS
  rw [HT.sIx_nat, cp_of]
  have e0 : x.cps.toList = cp x := rfl
  have e1 : HT.sIx x.length 0 none = 0 := rfl
  rw [e0, e1, List.drop_zero, Nat.sub_zero]
  by_cases h : b ≤ x.length
  · rw [Nat.min_eq_left h]
  · rw [Nat.min_eq_right (by omega), List.take_of_length_le (by omega), List.take_of_length_le (by omega)]

theorem piece {z : Str} {d : List Nat} (h : cp z = d) (ad : AllDigits d) (ne : d ≠ []) (l : d.length ≤ 64) : intText? z = some ((digitsVal d : Nat) : Int) ∧ z.length ≤ 640 := by
  have hl := cp_len z
  subst h
  exact ⟨intText_digits ad ne (by omega), by omega⟩
theorem exact_valN {t : TE} {v : V} {σ : L2.St} {H : Hp} {Q : VK} (h : ∀ Q' : VK, Q' v H → t σ H Q') (hq : Q v H) : t σ H Q := h Q hq
theorem scNumI : FnScope ["digits", "end", "number"] ["digits"] (defScope V5.s_number_in) :=
  ⟨rfl, rfl, rfl, by decide +kernel, rfl, by decide +kernel, by decide +kernel⟩
def spNumIn : Sp := fun vs H Q _ => ∃ y : Str, vs = [.str y] ∧ AllDigits (cp y) ∧ 1 ≤ (cp y).length ∧ (cp y).length ≤ 1000 ∧ Q (.int ((digitsVal (cp y) : Nat) : Int)) H

theorem log_small {n k : Nat} (h : n < 10 ^ k) (hk : k ≤ 1000) : n.log2 < 4000 := by
  by_cases z : n = 0
  · subst z
    decide
  · refine (Nat.log2_lt z).mpr (Nat.lt_of_lt_of_le h ?_)
    have : (10 : Nat) ^ k ≤ 16 ^ k := Nat.pow_le_pow_left (by decide) k
    refine Nat.le_trans this ?_
    rw [show (16 : Nat) = 2 ^ 4 from rfl, ← Nat.pow_mul]
    exact Nat.pow_le_pow_right (by decide) (by omega)

section
variable {P : Program} {w : World} {K : PySem.W.Frag} {mg : Str → Option Value} {base : Heap}
theorem ok_numIn {f : Addr} {fd : FuncData} (F : Fun K "number_in" "number_in" V5.s_number_in f fd) (Z : Bare mg) (hA : ∃ t, mg "AT_ONCE" = some (.int 64 t))
    (hU : ∃ t, mg "UNIT" = some (.int (10 ^ 64) t)) :
    FnOk P w K mg base CX0 1 f fd ["digits"] spNumIn := by
  obtain ⟨ta, ga⟩ := hA
  obtain ⟨tu, gu⟩ := hU
  refine F.ok scNumI (fun vs H Q E h => ?_) (fun cdv A outer s H vs Q E hr h => ?_)
  · obtain ⟨y, rfl, _⟩ := h
    rfl
  · obtain ⟨y, rfl, ad, h1, h2, q⟩ := h
    refine ⟨_, pss_cons (ps_set (i := 1) scNumI.nd rfl (.inl rfl) (pe_op op_mod (pe_callB call_len_str (by rfl) Z.len PySem.boot_len (pa_cons (pv 0) pa_nil)) (pe_glob (v := .int 64) rfl ga ⟨_, rfl⟩)))
      (pss_cons (ps_set (i := 2) scNumI.nd rfl (.inl rfl) (pe_ifExp (pt_cmpR op_eq (pv 1) pe_int (nomark _)) pe_int
        (pe_callTy call_int_str (by rfl) Z.int (by decide +kernel) (pa_cons (pe_slice sl_str (pv 0) po_none (po_some (pv 1))) pa_nil))))
      (pss_cons (ps_while PassesOwn.never (pt_cmpR op_lt (pv 1) (pe_callB call_len_str (by rfl) Z.len PySem.boot_len (pa_cons (pv 0) pa_nil)) (nomark _))
        (pss_cons (ps_set (i := 2) scNumI.nd rfl (.inl rfl) (pe_op op_add (pe_op op_mulW (pv 2) (pe_glob (v := .int (10 ^ 64)) rfl gu ⟨_, rfl⟩))
          (pe_callTy call_int_str (by rfl) Z.int (by decide +kernel) (pa_cons (pe_slice sl_str (pv 0) (po_some (pv 1)) (po_some (pe_op op_add (pv 1) (pe_glob (v := .int 64) rfl ga ⟨_, rfl⟩)))) pa_nil))))
        (pss_one (ps_aug (i := 1) scNumI.nd rfl (.inl rfl) (pe_glob (v := .int 64) rfl ga ⟨_, rfl⟩) ip_add))))
      (pss_one (ps_ret (pv 2))))), ?_⟩
    have yl : y.length ≤ sizeLine := Nat.le_trans (by rw [← cp_len]; exact h2) (by decide)
    have ey := cp_len y
    refine ⟨.str y, rfl, y, rfl, yl, _, 64, rfl, rfl, (by show (0 : Int) < 64; decide), ?_⟩
    obtain ⟨e, he⟩ : ∃ e : Nat, e = (cp y).length % 64 := ⟨_, rfl⟩
    have ee : ((y.length : Nat) : Int) % 64 = (e : Int) := by omega
    show gName 1 (V.int (((y.length : Nat) : Int) % 64)) _ _ _
    rw [ee]
    have el : e ≤ (cp y).length := by omega
    have tk : ∀ n : Nat, AllDigits ((cp y).take n) := fun n c hc => ad c (List.mem_of_mem_take hc)
    unfold gName
    dsimp only
    unfold tSeq
    dsimp only
    unfold tAsg
    dsimp only
    refine exact_valN (t := tIf _ _ _) (v := V.int ((digitsVal ((cp y).take e) : Nat) : Int)) (fun Q' q' => ?_) ?_
    · refine ⟨_, rfl, rfl, _, rfl, ?_⟩
      by_cases z : e = 0
      · subst z
        refine iteT ?_
        exact q'
      · rw [decide_eq_false (by intro c; injection c with c; omega)]
        refine iteF ⟨.str y, rfl, _, rfl, _, rfl, y, rfl, yl, ?_⟩
        have ne : (cp y).take e ≠ [] := by
          intro c
          have := congrArg List.length c
          rw [List.length_take, List.length_nil] at this
          omega
        obtain ⟨t1, t2⟩ := piece (cut_lo y e) (tk e) ne (by rw [List.length_take]; omega)
        exact ⟨_, _, rfl, t1, t2, q'⟩
    · refine ⟨fun m σ H' => ∃ b : Nat, m = (cp y).length - b ∧ σ = [some (.str y), some (.int b), some (.int ((digitsVal ((cp y).take b) : Nat) : Int))] ∧ H = H' ∧ b ≤ (cp y).length ∧ ((cp y).length - b) % 64 = 0, ⟨_, e, rfl, rfl, rfl, el, by omega⟩, ?_⟩
      rintro m σ H' ⟨b, rfl, rfl, rfl, hb, h64⟩
      refine ⟨.int b, rfl, .str y, rfl, y, rfl, yl, _, _, rfl, rfl, _, rfl, ?_⟩
      rw [lt_dec]
      refine ite2 (fun e1 => ?_) (fun e1 => ?_)
      · have lt : b < (cp y).length := of_decide_eq_true e1
        refine ⟨fun σ' H' => ∃ m', m' < (cp y).length - b ∧ ∃ b : Nat, m' = (cp y).length - b ∧ σ' = [some (.str y), some (.int b), some (.int ((digitsVal ((cp y).take b) : Nat) : Int))] ∧ H = H' ∧ b ≤ (cp y).length ∧ ((cp y).length - b) % 64 = 0, fun _ _ w => w, ?_⟩
        have tl := val_lt (tk b)
        rw [List.length_take] at tl
        refine ⟨_, rfl, _, _, rfl, rfl, ?_, .str y, rfl, .int b, rfl, _, rfl, .int b, rfl, _, _, rfl, rfl, _, rfl, y, rfl, yl, ?_⟩
        · show (Int.natAbs _).log2 + _ < 1000000
          rw [Int.natAbs_natCast]
          have := log_small tl (by omega)
          have h64 : ((10 : Int) ^ 64).natAbs.log2 < 1000 := by decide +kernel
          omega
        · have pd : AllDigits (((cp y).drop b).take 64) := fun c hc => ad c (List.mem_of_mem_drop (List.mem_of_mem_take hc))
          have pl : (((cp y).drop b).take 64).length = 64 := by
            rw [List.length_take, List.length_drop]
            omega
          have pe : cp (cutS y (some (b : Int)) (some ((b : Int) + 64))) = ((cp y).drop b).take 64 := cut_any y b 64 hb
          obtain ⟨t1, t2⟩ := piece pe pd (fun c => by rw [c] at pl; cases pl) (by omega)
          refine ⟨_, _, rfl, t1, t2, _, _, rfl, rfl, ?_⟩
          refine ⟨_, rfl, _, _, rfl, rfl, (cp y).length - (b + 64), by omega, b + 64, rfl, ?_, rfl, by omega, by omega⟩
          have ev : digitsVal ((cp y).take (b + 64)) = digitsVal ((cp y).take b) * 10 ^ 64 + digitsVal (((cp y).drop b).take 64) := by
            rw [List.take_add, val_app, pl]
          rw [ev, Int.natCast_add, Int.natCast_add, Int.natCast_mul]
          rfl
      · have ge : ¬ b < (cp y).length := fun z => e1 (decide_eq_true z)
        refine ⟨_, rfl, ?_⟩
        rw [List.take_of_length_le (by omega)]
        exact q
end
end K2

set_option maxHeartbeats 2000000
/-! The readers of lists, numbers, values, entries. -/
namespace V5
open PySem PySem.Spec PyProof.Rows L2 K2
open PySem.NumText (digitsVal AllDigits)

def PDig (n : Nat) (s : Str) : Prop := AllDigits (cp s) ∧ 1 ≤ (cp s).length ∧ (cp s).length ≤ 1000 ∧ digitsVal (cp s) = n ∧ Txt.isdigit s = true ∧ (cp s).head? ≠ some 34
def PNext (ts : List Str) (L : List Tk) : Prop := ∃ i s M, L = (i, s) :: M ∧ ∀ t ∈ ts, s ≠ t
def PVl : Vl → List Tk → List Tk → Prop
  | .lit i n, L, L' => ∃ s, L = (i, s) :: L' ∧ PDig n s ∧ s ≠ "-" ∧ s ≠ "if" ∧ s ≠ "{" ∧ s ≠ "new" ∧ s ≠ "for" ∧ PNext ["*", "+", "-"] L'
  | .use t, L, L' => ∃ L1, PTok "new" L L1 ∧ PName t L1 L' ∧ PNext ["{"] L'
  | .loop it st t, L, L' => ∃ L1 L2 L3 L4 L5, PTok "for" L L1 ∧ PName it L1 L2 ∧ PTok "in" L2 L3 ∧ PName st L3 L4 ∧ PTok "give" L4 L5 ∧ PName t L5 L' ∧ PNext ["{"] L'
def PEn (e : En) (L L' : List Tk) : Prop := ∃ L1 L2, PName e.m L L1 ∧ PTok ":" L1 L2 ∧ PVl e.v L2 L'
theorem par_fld {K : PySem.W.Frag} {mg : Str → Option Value} (E : Env K mg) {H : Hp} {p : Addr} {g : Pg} {L : List Tk} {σ : L2.St} {Q : VK} (hP : Par K H p g L) (hσ : σ[0]? = some (some (.ref p))) (h : Q (.str g.f) H) : tFld K (tVar 0) "file" σ H Q := by
  obtain ⟨a, hp⟩ := par_ins hP
  exact ⟨.ref p, hσ, p, _, g.dx, _, _, rfl, hp, E.C_Parser.c, E.n_Parser_file, rfl, h⟩
theorem RMk.obj {K : PySem.W.Frag} {H : Hp} {v : V} {m : Mk} (h : RMk K H v m) : ∃ p d, v = .ref p ∧ H p = some (.ins (cMark K) d (fMark (.int m.i) (.str m.n))) := h
section
variable {P : Program} {w : World} {K : PySem.W.Frag} {mg : Str → Option Value} {base : Heap}
theorem ok_read_stock (E : Env K mg) : FnOk P w K mg base CX0 7 (f_Parser_read_stock K) (fd_Parser_read_stock K) ["self"] (spR K [] PSk fun f H => RSk K H f) := by
  refine E.F_Parser_read_stock.ok sc_Parser_read_stock (fun vs H Q E h => ?_) (fun cdv A outer s H vs Q E1 hr h => ?_)
  · obtain ⟨p, g, d, L, L', rfl, _⟩ := h
    rfl
  · obtain ⟨p, g, d, L, L', rfl, hP, ⟨L1, L2, L3, L4, h1, h2, h3, h4, h5⟩, q⟩ := h
    have GT : FnOk P w K mg base CX0 1 (f_Parser_token K) (fd_Parser_token K) ["self"] (spToken K) := ok_token E
    have GE : FnOk P w K mg base CX0 2 (f_Parser_expect K) (fd_Parser_expect K) ["self", "token"] (spExpect K) := ok_expect E
    have GN : FnOk P w K mg base CX0 4 (f_Parser_read_name K) (fd_Parser_read_name K) ["self"] (spR K [] PName fun _ => RMk K) := ok_read_name E
    have GC : FnOk P w K mg base CX0 6 (f_Parser_read_columns K) (fd_Parser_read_columns K) ["self"] (spR K [] PCols fun _ => RCs K) := ok_read_columns E
    have GS : FnOk P w K mg base CX0 1 (f_Stock___init__ K) (fd_Stock___init__ K) ["self", "file", "mark", "columns", "goods"] (spStock K) := ok_Stock E
    have C := E.C_Parser.c
    have nd := sc_Parser_read_stock.nd
    refine ⟨_, pss_cons (ps_expr (pe_meth (pv 0) C E.M_Parser_expect.m GE (hr.mono (by decide)) E.M_Parser_expect.b .nil pass0 (pa_cons pe_str pa_nil)))
      <| pss_cons (ps_set (i := 1) nd rfl (.inl rfl) (pe_meth0 (pv 0) C E.M_Parser_read_name.m GN (hr.mono (by decide)) E.M_Parser_read_name.b .nil pass0))
      <| pss_cons (ps_set (i := 2) nd rfl (.inl rfl) (pe_meth0 (pv 0) C E.M_Parser_read_columns.m GC hr E.M_Parser_read_columns.b .nil pass0))
      <| pss_cons (ps_expr (pe_meth (pv 0) C E.M_Parser_expect.m GE (hr.mono (by decide)) E.M_Parser_expect.b .nil pass0 (pa_cons pe_str pa_nil)))
      <| pss_cons (ps_set (i := 3) nd rfl (.inl rfl) (pe_lst pa_nil))
      <| pss_cons (ps_while PassesOwn.never (pt_cmpR op_ne (pe_meth0 (pv 0) C E.M_Parser_token.m GT (hr.mono (by decide)) E.M_Parser_token.b .nil pass0) pe_str (nomark _)) (pss_one ps_never))
      <| pss_cons (ps_expr (pe_meth (pv 0) C E.M_Parser_expect.m GE (hr.mono (by decide)) E.M_Parser_expect.b .nil pass0 (pa_cons pe_str pa_nil)))
      <| pss_one (ps_ret (pe_make E.C_Stock.k GS (hr.mono (by decide)) (by rfl) E.C_Stock.g E.C_Stock.b .nil pass0 (pa_cons (pe_fld (pv 0) rfl) <| pa_cons (pv 1) <| pa_cons (pv 2) <| pa_cons (pv 3) pa_nil))), ?_⟩
    refine pExp hP h1 rfl fun H1 st1 P1 => ?_
    refine pRd P1 rfl (fun _ _ _ _ => rfl) h2 fun H2 mv st2 P2 r2 => ?_
    refine pRd P2 rfl (fun _ _ _ _ => rfl) h3 fun H3 cv st3 P3 r3 => ?_
    refine pExp P3 h4 rfl fun H4 st4 P4 => ?_
    refine ⟨by decide, fun lg hlg => ?_⟩
    have sm5 : Same H4 (upd H4 lg (.lst [])) := same_new hlg
    have s4 := st1.trans (st2.trans (st3.trans st4))
    have lgN : H lg = none := s4.nn hlg
    have P5 := P4.same sm5
    have l5 : (upd H4 lg (.lst [])) lg = some (.lst []) := upd_same
    have m5 : RMk K (upd H4 lg (.lst [])) mv d.m := ((r2.st (St.same nw_same)).st (st3.trans (st4.trans (St.same sm5))))
    have c5 : RCs K (nw H (upd H4 lg (.lst []))) cv d.cs := r3.st (nw_st (st1.tr.trans st2.tr) (st4.trans (St.same sm5)))
    have s5 := s4.trans (St.same sm5)
    generalize upd H4 lg (.lst []) = H5 at P5 l5 m5 c5 s5 ⊢
    refine ⟨fun m σ H' => σ = [some (.ref p), some mv, some cv, some (.ref lg)] ∧ H' = H5, ⟨0, rfl, rfl⟩, ?_⟩
    rintro m σ H' ⟨rfl, rfl⟩
    obtain ⟨i5, rfl⟩ := h5
    refine pTok P5 rfl ⟨rfl, _, rfl, ?_⟩
    rw [dec_str, decide_eq_true rfl]
    refine iteF (pExp P5 ⟨i5, rfl⟩ rfl fun H6 st6 P6 => ?_)
    obtain ⟨a6, p6⟩ := par_ins P6
    refine ⟨_, rfl, p, _, g.dx, _, _, rfl, p6, C, E.n_Parser_file, rfl, _, rfl, _, rfl, _, rfl, ?_⟩
    obtain ⟨mp, md, rfl, hm⟩ := (m5.st st6).obj
    obtain ⟨lc, cvs, rfl, hc, rc⟩ := c5
    refine make_of (fl := fStk (.str g.f) (.int d.m.i) (.str d.m.n) (.ref lc) (.ref lg)) (fun p' dx H7 h7 sm7 Q' q' => ⟨p', dx, _, _, _, mp, md, _, _, rfl, h7, sm7 _ _ hm, q'⟩) fun x dx H7 sm7 hx h7 => ?_
    have s6 := s5.trans st6
    have s67 := st6.trans (St.same sm7)
    have nws : St (nw H H') (nw H H7) := nw_st (Tr.refl H) s67
    exact q H7 (.ref x) (s6.trans (St.same sm7)) (P6.same sm7) ⟨x, dx, lc, lg, cvs, rfl, nw_at (s6.nn hx) h7, nws.at hc rfl, rc.imp fun _ _ z => z.st nws, nw_at lgN (s67.at l5 rfl)⟩
theorem ok_read_digits (E : Env K mg) : FnOk P w K mg base CX0 3 (f_Parser_read_digits K) (fd_Parser_read_digits K) ["self"] (spR K [] (fun (n : Nat) L L' => ∃ i s, L = (i, s) :: L' ∧ PDig n s) fun _ _ v n => v = .int (n : Nat)) := by
  refine E.F_Parser_read_digits.ok sc_Parser_read_digits (fun vs H Q E h => ?_) (fun cdv A outer s H vs Q E1 hr h => ?_)
  · obtain ⟨p, g, d, L, L', rfl, _⟩ := h
    rfl
  · obtain ⟨p, g, n, L, L', rfl, hP, ⟨i, z, rfl, hd⟩, q⟩ := h
    have GT : FnOk P w K mg base CX0 1 (f_Parser_token K) (fd_Parser_token K) ["self"] (spToken K) := ok_token E
    have GK : FnOk P w K mg base CX0 2 (f_Parser_take K) (fd_Parser_take K) ["self"] (spTakeT K) := ok_take_t E
    have GN : FnOk P w K mg base CX0 1 (f_number_in K) (fd_number_in K) ["digits"] spNumIn := ok_numIn E.F_number_in E.bare E.c_AT_ONCE E.c_UNIT
    have C := E.C_Parser.c
    refine ⟨_, pss_cons (ps_if (pt_not (pt_val (pe_bm0 PySem.F.plainAttrs_str PySem.F.slot_str_isdigit PySem.F.type_str_isdigit mt_isdigit (pe_meth0 (pv 0) C E.M_Parser_token.m GT (hr.mono (by decide)) E.M_Parser_token.b .nil pass0)))) (pss_one ps_never) pss_nil)
      (pss_one (ps_ret (pe_call GN (hr.mono (by decide)) (by rfl) E.D_number_in.g E.D_number_in.k E.D_number_in.b .nil pass0 (pa_cons (pe_meth0 (pv 0) C E.M_Parser_take.m GK hr E.M_Parser_take.b .nil pass0) pa_nil)))), ?_⟩
    obtain ⟨d1, d2, d3, d4, d5, d6⟩ := hd
    refine pTok hP rfl ⟨rfl, _, rfl, rfl, trivial, _, rfl, ?_⟩
    rw [d5]
    refine iteF (pTake hP rfl fun H1 st1 P1 => ⟨z, rfl, d1, d2, d3, ?_⟩)
    rw [d4]
    exact q H1 _ st1 P1 rfl
end
end V5

set_option maxHeartbeats 2000000
/-! The readers of numbers as sums, records, loops. -/
namespace V5
open PySem PySem.Spec PyProof.Rows L2 K2
open PySem.NumText (digitsVal AllDigits)

def PTerm (n : Nat) (L L' : List Tk) : Prop := ∃ i s, L = (i, s) :: L' ∧ PDig n s ∧ PNext ["*"] L'
def RTerm (K : PySem.W.Frag) (H : Hp) (v : V) (n : Nat) : Prop := ∃ p dx, v = .ref p ∧ H p = some (.ins (cTerm K) dx (fTerm (.int n) .non))
def PLit (d : Nat × Nat) (L L' : List Tk) : Prop := ∃ s, L = (d.1, s) :: L' ∧ PDig d.2 s ∧ s ≠ "-" ∧ PNext ["*", "+", "-"] L'
theorem PNext.acc {K : PySem.W.Frag} {H : Hp} {p : Addr} {g : Pg} {L : List Tk} {ts : List Str} {t : Str} {σ : L2.St} {Q : VK} {E : XK} (h : PNext ts L) (hP : Par K H p g L) (ht : t ∈ ts) (hσ : σ[0]? = some (some (.ref p))) (q : Q (.bl false) H) : tMeth (cParser K) "accepts" (spAccepts K) [] E (tVar 0) (tCons (tC (.str t)) tNil) σ H Q := by
  obtain ⟨i, s, M, rfl, n⟩ := h
  exact pAccF hP (n t ht) hσ q
theorem cutS_one {s : Str} (h : (cp s).head? ≠ some 34) : cutS s none (some 1) ≠ ("\"" : Str) := by
  intro e
  have h2 := cut_lo s 1
  rw [show cutS s none (some ((1 : Nat) : Int)) = cutS s none (some 1) from rfl, e] at h2
  have h3 : cp ("\"" : Str) = [34] := by decide +kernel
  rw [h3] at h2
  cases z : cp s with
  | nil =>
    rw [z] at h2
    cases h2
  | cons c r =>
    rw [z] at h2 h
    have : (34 : Nat) = c := by
      have := congrArg (fun l => l.head?) h2
      exact Option.some.inj this
    exact h (by rw [this]; rfl)
theorem inV_two {t a b : Str} (h1 : t ≠ a) (h2 : t ≠ b) : inV (.str t) [.str a, .str b] = false := by
  have e1 : (a == t) = false := beq_eq_false_iff_ne.mpr (Ne.symm h1)
  have e2 : (b == t) = false := beq_eq_false_iff_ne.mpr (Ne.symm h2)
  show ((a == t) || ((b == t) || false)) = false
  rw [e1, e2]
  rfl
section
variable {P : Program} {w : World} {K : PySem.W.Frag} {mg : Str → Option Value} {base : Heap}
theorem ok_read_term (E : Env K mg) : FnOk P w K mg base CX0 4 (f_Parser_read_term K) (fd_Parser_read_term K) ["self", "sign"] (spR K [.int 1] PTerm fun _ => RTerm K) := by
  refine E.F_Parser_read_term.ok sc_Parser_read_term (fun vs H Q E h => ?_) (fun cdv A outer s H vs Q E1 hr h => ?_)
  · obtain ⟨p, g, d, L, L', rfl, _⟩ := h
    rfl
  · obtain ⟨p, g, n, L, L', rfl, hP, ⟨i, z, rfl, hd, hx⟩, q⟩ := h
    have GT : FnOk P w K mg base CX0 1 (f_Parser_token K) (fd_Parser_token K) ["self"] (spToken K) := ok_token E
    have GA : FnOk P w K mg base CX0 2 (f_Parser_accepts K) (fd_Parser_accepts K) ["self", "token"] (spAccepts K) := ok_accepts E
    have GD : FnOk P w K mg base CX0 3 (f_Parser_read_digits K) (fd_Parser_read_digits K) ["self"] (spR K [] (fun (n : Nat) L L' => ∃ i s, L = (i, s) :: L' ∧ PDig n s) fun _ _ v n => v = .int (n : Nat)) := ok_read_digits E
    have GM : FnOk P w K mg base CX0 1 (f_Term___init__ K) (fd_Term___init__ K) ["self", "factor", "path"] (spTerm K) := ok_Term E
    have C := E.C_Parser.c
    have nd := sc_Parser_read_term.nd
    refine ⟨_, pss_cons (ps_if (pt_not (pt_val (pe_bm0 PySem.F.plainAttrs_str PySem.F.slot_str_isdigit PySem.F.type_str_isdigit mt_isdigit (pe_meth0 (pv 0) C E.M_Parser_token.m GT (hr.mono (by decide)) E.M_Parser_token.b .nil pass0)))) (pss_one ps_never) pss_nil)
      <| pss_cons (ps_set (i := 2) nd rfl (.inl rfl) (pe_op op_mul (pv 1) (pe_meth0 (pv 0) C E.M_Parser_read_digits.m GD (hr.mono (by decide)) E.M_Parser_read_digits.b .nil pass0)))
      <| pss_one (ps_ret (pe_make E.C_Term.k GM (hr.mono (by decide)) (by rfl) E.C_Term.g E.C_Term.b .nil pass0 (pa_cons (pv 2) <| pa_cons (pe_ifExp (pt_val (pe_meth (pv 0) C E.M_Parser_accepts.m GA (hr.mono (by decide)) E.M_Parser_accepts.b .nil pass0 (pa_cons pe_str pa_nil))) pe_never pe_non) pa_nil))), ?_⟩
    obtain ⟨d1, d2, d3, d4, d5, d6⟩ := id hd
    refine pTok hP rfl ⟨rfl, _, rfl, rfl, trivial, _, rfl, ?_⟩
    rw [d5]
    refine iteF ⟨_, rfl, ?_⟩
    refine pRd hP rfl (fun _ _ _ _ => rfl) ⟨i, z, rfl, hd⟩ fun H1 v st1 P1 r1 => ?_
    subst r1
    refine ⟨_, _, rfl, rfl, .inl ⟨by decide, by decide⟩, ?_⟩
    refine ⟨_, rfl, ?_⟩
    refine hx.acc P1 (by simp) rfl ⟨_, rfl, iteF ?_⟩
    refine make_of (fl := fTerm (.int n) .non) (fun p' dx H7 h7 sm7 Q' q' => ⟨p', dx, _, _, rfl, h7, fun H8 b8 e8 => q' H8 b8 (by rw [e8]; show some (HO.ins _ dx (fTerm (V.int (1 * (n : Int))) .non)) = _; rw [Int.one_mul])⟩) fun x dx H7 sm7 hx h7 => ?_
    exact q H7 (.ref x) (st1.trans (St.same sm7)) (P1.same sm7) ⟨x, dx, rfl, nw_at (st1.nn hx) h7⟩
theorem ok_read_simple (E : Env K mg) : FnOk P w K mg base CX0 5 (f_Parser_read_simple K) (fd_Parser_read_simple K) ["self"] (spR K [] PLit fun _ H v d => RVl K H v (.lit d.1 d.2)) := by
  obtain ⟨tq, hQ⟩ := E.c_QUOTE
  refine E.F_Parser_read_simple.ok sc_Parser_read_simple (fun vs H Q E h => ?_) (fun cdv A outer s H vs Q E1 hr h => ?_)
  · obtain ⟨p, g, d, L, L', rfl, _⟩ := h
    rfl
  · obtain ⟨p, g, ⟨i, n⟩, L, L', rfl, hP, ⟨z, rfl, hd, hm, hx⟩, q⟩ := h
    have GT : FnOk P w K mg base CX0 1 (f_Parser_token K) (fd_Parser_token K) ["self"] (spToken K) := ok_token E
    have GH : FnOk P w K mg base CX0 1 (f_Parser_here K) (fd_Parser_here K) ["self"] (spHere K) := ok_here E
    have GA : FnOk P w K mg base CX0 2 (f_Parser_accepts K) (fd_Parser_accepts K) ["self", "token"] (spAccepts K) := ok_accepts E
    have GR : FnOk P w K mg base CX0 4 (f_Parser_read_term K) (fd_Parser_read_term K) ["self", "sign"] (spR K [.int 1] PTerm fun _ => RTerm K) := ok_read_term E
    have GM : FnOk P w K mg base CX0 1 (f_Literal___init__ K) (fd_Literal___init__ K) ["self", "index", "worth"] (spLiteral K) := ok_Literal E
    have C := E.C_Parser.c
    have nd := sc_Parser_read_simple.nd
    refine ⟨_, pss_cons (ps_set (i := 1) nd rfl (.inl rfl) (pe_fld (pv 0) rfl))
      <| pss_cons (ps_set (i := 2) nd rfl (.inl rfl) (pe_meth0 (pv 0) C E.M_Parser_here.m GH (hr.mono (by decide)) E.M_Parser_here.b .nil pass0))
      <| pss_cons (ps_if (pt_cmpR op_eq (pe_slice sl_str (pe_meth0 (pv 0) C E.M_Parser_token.m GT (hr.mono (by decide)) E.M_Parser_token.b .nil pass0) po_none (po_some pe_int)) (pe_glob (v := .str "\"") rfl hQ ⟨_, rfl⟩) (nomark _)) (pss_one ps_never) pss_nil)
      <| pss_cons (ps_set (i := 3) nd rfl (.inl rfl) (pe_lst (pa_cons (pe_meth (pv 0) C E.M_Parser_read_term.m GR hr E.M_Parser_read_term.b .nil pass0
          (pa_cons (pe_ifExp (pt_val (pe_meth (pv 0) C E.M_Parser_accepts.m GA (hr.mono (by decide)) E.M_Parser_accepts.b .nil pass0 (pa_cons pe_str pa_nil))) (pe_un un_neg pe_int) pe_int) pa_nil)) pa_nil)))
      <| pss_cons (ps_while PassesOwn.never (pt_cmpR op_in_seq (pe_meth0 (pv 0) C E.M_Parser_token.m GT (hr.mono (by decide)) E.M_Parser_token.b .nil pass0) (pe_tup (pa_cons pe_str (pa_cons pe_str pa_nil))) (by with_unfolding_all rfl)) (pss_one ps_never))
      <| pss_cons (ps_if (pt_val (pe_callB (cr_all rfl) (by rfl) E.u_all (by decide +kernel) (pa_cons
          (pe_lc (own := [("term", 4)]) (g := gName 4) (tt := tYes) rfl nd (pi_list (pv 3))
            (blkOk_by (N := ["self", "start", "index", "terms", "term", "alone"]) (sc := defScope s_Parser_read_simple) (by decide +kernel))
            (fun _ _ _ _ _ => pg_name (i := 4) nd rfl (Or.inl rfl)) (fun _ _ _ _ _ => pts_nil)
            (fun _ _ _ _ _ => pe_cmpR op_isN (show PE _ _ (tFld K (tVar 4) "path") from pe_fld (pv 4) rfl) pe_non (nomark _))) pa_nil)))
        (pss_cons (ps_if (pt_cmpR op_gt (pe_callB call_len_seq (by rfl) E.u_len PySem.boot_len (pa_cons (pv 3) pa_nil)) pe_int (nomark _)) (pss_one ps_never) pss_nil)
          <| pss_one (ps_ret (pe_make E.C_Literal.k GM (hr.mono (by decide)) (by rfl) E.C_Literal.g E.C_Literal.b .nil pass0 (pa_cons (pv 2) <| pa_cons (pe_fld (pe_ix ix_list (pv 3) pe_int (fun _ _ => rfl)) rfl) pa_nil)))) pss_nil)
      <| pss_cons ps_never <| pss_one ps_never, ?_⟩
    obtain ⟨a0, p0⟩ := par_ins hP
    refine ⟨_, rfl, p, _, g.dx, _, _, rfl, p0, C, E.n_Parser_at, rfl, ?_⟩
    refine pHere hP rfl ?_
    refine pTok hP rfl ?_
    obtain ⟨d1, d2, d3, d4, d5, d6⟩ := id hd
    refine ⟨_, rfl, z, rfl, most_line (Nat.le_trans (by rw [← cp_len]; exact d3) (by decide)), rfl, _, rfl, ?_⟩
    rw [dec_str, decide_eq_false (cutS_one d6)]
    refine iteF ⟨_, rfl, p, g.dx, _, rfl, p0, rfl, pAccF hP hm rfl ⟨_, rfl, iteF ?_⟩⟩
    obtain ⟨j, t, M, eL, hn⟩ := id hx
    refine ⟨p, g, n, _, L', rfl, hP, ⟨i, z, rfl, hd, j, t, M, eL, fun t' ht => hn t' (by simp at ht; subst ht; simp)⟩, fun H1 v st1 P1 r1 => ?_⟩
    refine ⟨by show 1 ≤ sizeLine; decide, fun l hl => ?_⟩
    have sm2 : Same H1 (upd H1 l (.lst [v])) := same_new hl
    have l2 : (upd H1 l (.lst [v])) l = some (.lst [v]) := upd_same
    have P2 := P1.same sm2
    obtain ⟨vp, vd, rfl, hv⟩ := r1
    have v2 := sm2 _ _ (nw_same _ _ hv)
    have s2 := st1.trans (St.same sm2)
    generalize upd H1 l (.lst [.ref vp]) = H2 at l2 P2 v2 s2 ⊢
    subst eL
    refine ⟨fun m σ H' => σ = [some (.ref p), some a0, some (.int i), some (.ref l), none, none] ∧ H' = H2, ⟨0, rfl, rfl⟩, ?_⟩
    rintro m σ H' ⟨rfl, rfl⟩
    refine pTok P2 rfl ⟨by show 2 ≤ sizeLine; decide, fun t2 ht2 => ?_⟩
    have sm3 : Same H' (upd H' t2 (.tup [.str "+", .str "-"])) := same_new ht2
    refine ⟨t2, _, rfl, .inr (SqT.of upd_same), rfl, rfl, _, rfl, ?_⟩
    have hin : inV (.str t) [.str "+", .str "-"] = false := by
      have n1 := hn "+" (by simp)
      have n2 := hn "-" (by simp)
      exact inV_two n1 n2
    rw [hin]
    have P3 := P2.same sm3
    have l3 := sm3 _ _ l2
    have v3 := sm3 _ _ v2
    have s3 := s2.trans (St.same sm3)
    generalize upd H' t2 (.tup [.str "+", .str "-"]) = H3 at P3 l3 v3 s3 ⊢
    refine iteF ?_
    refine ⟨_, rfl, l, rfl, ⟨_, SqL.of l3⟩, fun D hD => ?_⟩
    refine lc_it (walk_list (K := K) (a := l) (xs := [.ref vp])) (fun k H' => H' = upd H3 D (.lst (List.replicate k (V.bl true)))) rfl (fun k H' _ e => by rw [e]; exact SqL.of (same_new hD _ _ l3)) ?_ ?_
    · rintro k v H5 H6 hk rfl ⟨rfl, hv⟩
      have k0 : k = 0 := by
        have : k < 1 := hk
        omega
      subst k0
      cases hv
      refine ⟨rfl, ?_⟩
      refine ⟨_, rfl, vp, _, vd, _, _, rfl, same_new hD _ _ v3, E.C_Term.c, E.n_Term_path, rfl, rfl, _, upd_same, by show 0 < sizeLine; decide, ?_⟩
      rw [upd_upd]
      rfl
    · rintro H5 rfl
      have sm5 : Same H3 (upd H3 D (.lst (List.replicate 1 (V.bl true)))) := same_new hD
      have l5 := sm5 _ _ l3
      have v5 := sm5 _ _ v3
      refine ⟨D, [true], rfl, SqL.of upd_same, _, rfl, iteT ?_⟩
      have P5 := P3.same sm5
      have s5 := s3.trans (St.same sm5)
      generalize upd H3 D (.lst (List.replicate 1 (V.bl true))) = H5 at l5 v5 P5 s5 ⊢
      refine ⟨_, rfl, l, _, rfl, .inl (SqL.of l5), _, _, rfl, rfl, _, rfl, ?_⟩
      refine iteF ⟨_, rfl, _, rfl, l, _, 0, _, rfl, rfl, SqL.of l5, atI_nat (j := 0) rfl, vp, _, vd, _, _, rfl, v5, E.C_Term.c, E.n_Term_factor, rfl, ?_⟩
      refine make_of (fl := fLit (.int i) (.int n)) (fun p' dx H7 h7 sm7 Q' q' => ⟨p', dx, _, _, rfl, h7, q'⟩) fun x dx H7 sm7 hx h7 => ?_
      exact q H7 (.ref x) (s5.trans (St.same sm7)) (P5.same sm7) ⟨x, dx, rfl, nw_at (s5.nn hx) h7⟩
end
end V5

set_option maxHeartbeats 2000000
/-! The readers of records, loops, values, entries. -/
namespace V5
open PySem PySem.Spec PyProof.Rows L2 K2

def PRec (wd : Str) (t : Mk) (L L' : List Tk) : Prop := ∃ L1, PTok wd L L1 ∧ PName t L1 L' ∧ PNext ["{"] L'
theorem PNext.hd {ts : List Str} {L : List Tk} (h : PNext ts L) : ∃ i s M, L = (i, s) :: M ∧ ∀ t ∈ ts, s ≠ t := h
section
variable {P : Program} {w : World} {K : PySem.W.Frag} {mg : Str → Option Value} {base : Heap}
theorem ok_read_record (E : Env K mg) (wd : Str) : FnOk P w K mg base CX0 5 (f_Parser_read_record K) (fd_Parser_read_record K) ["self", "word"] (spR K [.str wd] (PRec wd) fun _ H v t => RVl K H v (.use t)) := by
  refine E.F_Parser_read_record.ok sc_Parser_read_record (fun vs H Q E h => ?_) (fun cdv A outer s H vs Q E1 hr h => ?_)
  · obtain ⟨p, g, d, L, L', rfl, _⟩ := h
    rfl
  · obtain ⟨p, g, t, L, L', rfl, hP, ⟨L1, h1, h2, h3⟩, q⟩ := h
    have GT : FnOk P w K mg base CX0 1 (f_Parser_token K) (fd_Parser_token K) ["self"] (spToken K) := ok_token E
    have GE : FnOk P w K mg base CX0 2 (f_Parser_expect K) (fd_Parser_expect K) ["self", "token"] (spExpect K) := ok_expect E
    have GN : FnOk P w K mg base CX0 4 (f_Parser_read_name K) (fd_Parser_read_name K) ["self"] (spR K [] PName fun _ => RMk K) := ok_read_name E
    have GR : FnOk P w K mg base CX0 1 (f_Record___init__ K) (fd_Record___init__ K) ["self", "template", "body"] (spRecord K) := ok_Record E
    have C := E.C_Parser.c
    have nd := sc_Parser_read_record.nd
    refine ⟨_, pss_cons (ps_expr (pe_meth (pv 0) C E.M_Parser_expect.m GE (hr.mono (by decide)) E.M_Parser_expect.b .nil pass0 (pa_cons (pv 1) pa_nil)))
      <| pss_cons (ps_set (i := 2) nd rfl (.inl rfl) (pe_meth0 (pv 0) C E.M_Parser_read_name.m GN hr E.M_Parser_read_name.b .nil pass0))
      <| pss_one (ps_ret (pe_make E.C_Record.k GR (hr.mono (by decide)) (by rfl) E.C_Record.g E.C_Record.b .nil pass0 (pa_cons (pv 2)
        <| pa_cons (pe_ifExp (pt_cmpR op_eq (pe_meth0 (pv 0) C E.M_Parser_token.m GT (hr.mono (by decide)) E.M_Parser_token.b .nil pass0) pe_str (nomark _)) pe_never pe_non) pa_nil))), ?_⟩
    obtain ⟨a0, p0⟩ := par_ins hP
    obtain ⟨i1, rfl⟩ := h1
    refine ⟨_, rfl, p, g.dx, _, rfl, p0, rfl, _, rfl, p, g, L1, i1, wd, rfl, hP, fun H1 st1 P1 => ?_⟩
    refine pRd P1 rfl (fun _ _ _ _ => rfl) h2 fun H2 v st2 P2 r2 => ?_
    refine ⟨_, rfl, ?_⟩
    obtain ⟨j, sg, M, rfl, hn⟩ := h3
    refine pTok P2 rfl ⟨rfl, _, rfl, ?_⟩
    rw [dec_str, decide_eq_false (hn "{" (by simp))]
    refine iteF ?_
    have s2 := st1.trans st2
    refine make_of (fl := fRec v .non) (fun p' dx H7 h7 sm7 Q' q' => ⟨p', dx, _, _, rfl, h7, q'⟩) fun x dx H7 sm7 hx h7 => ?_
    exact q H7 (.ref x) (s2.trans (St.same sm7)) (P2.same sm7) ⟨x, dx, v, rfl, nw_at (s2.nn hx) h7, r2.st (nw_st st1.tr (St.same sm7))⟩
theorem ok_read_loop (E : Env K mg) : FnOk P w K mg base CX0 6 (f_Parser_read_loop K) (fd_Parser_read_loop K) ["self"] (spR K [] (fun (d : Mk × Mk × Mk) => PVl (.loop d.1 d.2.1 d.2.2)) fun _ H v d => RVl K H v (.loop d.1 d.2.1 d.2.2)) := by
  refine E.F_Parser_read_loop.ok sc_Parser_read_loop (fun vs H Q E h => ?_) (fun cdv A outer s H vs Q E1 hr h => ?_)
  · obtain ⟨p, g, d, L, L', rfl, _⟩ := h
    rfl
  · obtain ⟨p, g, ⟨it, st, t⟩, L, L', rfl, hP, ⟨L1, L2, L3, L4, L5, h1, h2, h3, h4, h5, h6, h7⟩, q⟩ := h
    have GE : FnOk P w K mg base CX0 2 (f_Parser_expect K) (fd_Parser_expect K) ["self", "token"] (spExpect K) := ok_expect E
    have GA : FnOk P w K mg base CX0 2 (f_Parser_accepts K) (fd_Parser_accepts K) ["self", "token"] (spAccepts K) := ok_accepts E
    have GN : FnOk P w K mg base CX0 4 (f_Parser_read_name K) (fd_Parser_read_name K) ["self"] (spR K [] PName fun _ => RMk K) := ok_read_name E
    have GR : FnOk P w K mg base CX0 5 (f_Parser_read_record K) (fd_Parser_read_record K) ["self", "word"] (spR K [.str "give"] (PRec "give") fun _ H v t => RVl K H v (.use t)) := ok_read_record E "give"
    have GL : FnOk P w K mg base CX0 1 (f_Loop___init__ K) (fd_Loop___init__ K) ["self", "item", "stock", "where", "record"] (spLoop K) := ok_Loop E
    have C := E.C_Parser.c
    have nd := sc_Parser_read_loop.nd
    refine ⟨_, pss_cons (ps_expr (pe_meth (pv 0) C E.M_Parser_expect.m GE (hr.mono (by decide)) E.M_Parser_expect.b .nil pass0 (pa_cons pe_str pa_nil)))
      <| pss_cons (ps_set (i := 1) nd rfl (.inl rfl) (pe_meth0 (pv 0) C E.M_Parser_read_name.m GN (hr.mono (by decide)) E.M_Parser_read_name.b .nil pass0))
      <| pss_cons (ps_expr (pe_meth (pv 0) C E.M_Parser_expect.m GE (hr.mono (by decide)) E.M_Parser_expect.b .nil pass0 (pa_cons pe_str pa_nil)))
      <| pss_cons (ps_set (i := 2) nd rfl (.inl rfl) (pe_meth0 (pv 0) C E.M_Parser_read_name.m GN (hr.mono (by decide)) E.M_Parser_read_name.b .nil pass0))
      <| pss_cons (ps_set (i := 3) nd rfl (.inl rfl) (pe_ifExp (pt_val (pe_meth (pv 0) C E.M_Parser_accepts.m GA (hr.mono (by decide)) E.M_Parser_accepts.b .nil pass0 (pa_cons pe_str pa_nil))) pe_never pe_non))
      <| pss_one (ps_ret (pe_make E.C_Loop.k GL (hr.mono (by decide)) (by rfl) E.C_Loop.g E.C_Loop.b .nil pass0 (pa_cons (pv 1) <| pa_cons (pv 2) <| pa_cons (pv 3)
        <| pa_cons (pe_meth (pv 0) C E.M_Parser_read_record.m GR hr E.M_Parser_read_record.b .nil pass0 (pa_cons pe_str pa_nil)) pa_nil))), ?_⟩
    refine pExp hP h1 rfl fun H1 st1 P1 => ?_
    refine pRd P1 rfl (fun _ _ _ _ => rfl) h2 fun H2 iv st2 P2 r2 => ?_
    refine pExp P2 h3 rfl fun H3 st3 P3 => ?_
    refine pRd P3 rfl (fun _ _ _ _ => rfl) h4 fun H4 sv st4 P4 r4 => ?_
    obtain ⟨i5, e5⟩ := id h5
    subst e5
    refine pAccF P4 (by decide +kernel) rfl ⟨_, rfl, iteF ⟨_, rfl, _, rfl, _, rfl, ?_⟩⟩
    refine pRd1 P4 rfl (fun _ _ _ _ => rfl) ⟨L5, h5, h6, h7⟩ fun H5 rv st5 P5 r5 => ?_
    obtain ⟨rp, rd, tv, rfl, hrr, rt⟩ := r5
    have s5 := st1.trans (st2.trans (st3.trans (st4.trans st5)))
    refine make_of (fl := fLoop iv sv .non tv .non) (fun p' dx H7 h7 sm7 Q' q' => ⟨p', dx, _, _, _, rp, rd, _, _, rfl, h7, sm7 _ _ (nw_same _ _ hrr), q'⟩) fun x dx H7 sm7 hx h7 => ?_
    exact q H7 (.ref x) (s5.trans (St.same sm7)) (P5.same sm7) ⟨x, dx, iv, sv, tv, rfl, nw_at (s5.nn hx) h7, r2.st (nw_st st1.tr (st3.trans (st4.trans (st5.trans (St.same sm7))))),
      r4.st (nw_st (st1.tr.trans (st2.tr.trans st3.tr)) (st5.trans (St.same sm7))), rt.st (nw_st (st1.tr.trans (st2.tr.trans (st3.tr.trans st4.tr))) (St.same sm7))⟩
theorem ok_read_value (E : Env K mg) : FnOk P w K mg base CX0 7 (f_Parser_read_value K) (fd_Parser_read_value K) ["self", "declaring", "hidden"] (spR K [.bl true, .bl false] PVl fun _ => RVl K) := by
  refine E.F_Parser_read_value.ok sc_Parser_read_value (fun vs H Q E h => ?_) (fun cdv A outer s H vs Q E1 hr h => ?_)
  · obtain ⟨p, g, d, L, L', rfl, _⟩ := h
    rfl
  · obtain ⟨p, g, d, L, L', rfl, hP, hv, q⟩ := h
    have GT : FnOk P w K mg base CX0 1 (f_Parser_token K) (fd_Parser_token K) ["self"] (spToken K) := ok_token E
    have GR : FnOk P w K mg base CX0 5 (f_Parser_read_record K) (fd_Parser_read_record K) ["self", "word"] (spR K [.str "new"] (PRec "new") fun _ H v t => RVl K H v (.use t)) := ok_read_record E "new"
    have GL : FnOk P w K mg base CX0 6 (f_Parser_read_loop K) (fd_Parser_read_loop K) ["self"] (spR K [] (fun (d : Mk × Mk × Mk) => PVl (.loop d.1 d.2.1 d.2.2)) fun _ H v d => RVl K H v (.loop d.1 d.2.1 d.2.2)) := ok_read_loop E
    have GS : FnOk P w K mg base CX0 5 (f_Parser_read_simple K) (fd_Parser_read_simple K) ["self"] (spR K [] PLit fun _ H v d => RVl K H v (.lit d.1 d.2)) := ok_read_simple E
    have C := E.C_Parser.c
    have nd := sc_Parser_read_value.nd
    refine ⟨_, pss_cons (ps_set (i := 3) nd rfl (.inl rfl) (pe_meth0 (pv 0) C E.M_Parser_token.m GT (hr.mono (by decide)) E.M_Parser_token.b .nil pass0))
      <| pss_cons (ps_if (pt_cmpR op_eq (pv 3) pe_str (nomark _)) (pss_one ps_never) pss_nil)
      <| pss_cons (ps_if (PW.pt (pw_and (pt_cmpR op_eq (pv 3) pe_str (nomark _)) (pw_and1 (pt_not (pt_val (pv 1)))))) (pss_one ps_never) pss_nil)
      <| pss_cons (ps_if (PW.pt (pw_and (pt_cmpR op_eq (pv 3) pe_str (nomark _)) (pw_and1 (pt_val (pv 1))))) (pss_one (ps_ret (pe_meth (pv 0) C E.M_Parser_read_record.m GR (hr.mono (by decide)) E.M_Parser_read_record.b .nil pass0 (pa_cons pe_str pa_nil)))) pss_nil)
      <| pss_cons (ps_if (PW.pt (pw_and (pt_cmpR op_eq (pv 3) pe_str (nomark _)) (pw_and (pt_val (pv 1)) (pw_and1 (pt_not (pt_val (pv 2))))))) (pss_one (ps_ret (pe_meth0 (pv 0) C E.M_Parser_read_loop.m GL hr E.M_Parser_read_loop.b .nil pass0))) pss_nil)
      <| pss_one (ps_ret (pe_meth0 (pv 0) C E.M_Parser_read_simple.m GS (hr.mono (by decide)) E.M_Parser_read_simple.b .nil pass0)), ?_⟩
    cases d with
    | lit i n =>
      obtain ⟨z, rfl, hd, hm, n1, n2, n3, n4, hx⟩ := hv
      refine pTok hP rfl ?_
      refine ⟨_, rfl, rfl, _, rfl, ?_⟩
      rw [dec_str, decide_eq_false n1]
      refine iteF ⟨_, rfl, rfl, _, rfl, ?_⟩
      rw [dec_str, decide_eq_false n2]
      refine iteF (iteF ⟨_, rfl, rfl, _, rfl, ?_⟩)
      rw [dec_str, decide_eq_false n3]
      refine iteF (iteF ⟨_, rfl, rfl, _, rfl, ?_⟩)
      rw [dec_str, decide_eq_false n4]
      refine iteF (iteF ?_)
      exact pRd (d := (i, n)) hP rfl (fun _ _ _ _ => rfl) ⟨z, rfl, hd, hm, hx⟩ q
    | use t =>
      obtain ⟨L1, h1, h2, h3⟩ := hv
      obtain ⟨i1, rfl⟩ := h1
      refine pTok hP rfl ?_
      refine ⟨_, rfl, rfl, _, rfl, ?_⟩
      rw [dec_str, decide_eq_false (by decide +kernel)]
      refine iteF ⟨_, rfl, rfl, _, rfl, ?_⟩
      rw [dec_str, decide_eq_false (by decide +kernel)]
      refine iteF (iteF ⟨_, rfl, rfl, _, rfl, ?_⟩)
      rw [dec_str, decide_eq_true rfl]
      refine iteT ⟨_, rfl, _, rfl, iteT ?_⟩
      exact pRd1 hP rfl (fun _ _ _ _ => rfl) ⟨L1, ⟨i1, rfl⟩, h2, h3⟩ q
    | loop it st t =>
      obtain ⟨L1, L2, L3, L4, L5, h1, hr'⟩ := hv
      obtain ⟨i1, rfl⟩ := h1
      refine pTok hP rfl ?_
      refine ⟨_, rfl, rfl, _, rfl, ?_⟩
      rw [dec_str, decide_eq_false (by decide +kernel)]
      refine iteF ⟨_, rfl, rfl, _, rfl, ?_⟩
      rw [dec_str, decide_eq_false (by decide +kernel)]
      refine iteF (iteF ⟨_, rfl, rfl, _, rfl, ?_⟩)
      rw [dec_str, decide_eq_false (by decide +kernel)]
      refine iteF (iteF ⟨_, rfl, rfl, _, rfl, ?_⟩)
      rw [dec_str, decide_eq_true rfl]
      refine iteT ⟨_, rfl, _, rfl, iteT ⟨_, rfl, _, rfl, iteT ?_⟩⟩
      exact pRd (d := (it, st, t)) hP rfl (fun _ _ _ _ => rfl) ⟨L1, L2, L3, L4, L5, ⟨i1, rfl⟩, hr'⟩ q
theorem ok_read_entry (E : Env K mg) : FnOk P w K mg base CX0 8 (f_Parser_read_entry K) (fd_Parser_read_entry K) ["self", "declaring"] (spR K [.bl true] PEn fun _ => REn K) := by
  refine E.F_Parser_read_entry.ok sc_Parser_read_entry (fun vs H Q E h => ?_) (fun cdv A outer s H vs Q E1 hr h => ?_)
  · obtain ⟨p, g, d, L, L', rfl, _⟩ := h
    rfl
  · obtain ⟨p, g, d, L, L', rfl, hP, ⟨L1, L2, h1, h2, h3⟩, q⟩ := h
    have GE : FnOk P w K mg base CX0 2 (f_Parser_expect K) (fd_Parser_expect K) ["self", "token"] (spExpect K) := ok_expect E
    have GA : FnOk P w K mg base CX0 2 (f_Parser_accepts K) (fd_Parser_accepts K) ["self", "token"] (spAccepts K) := ok_accepts E
    have GN : FnOk P w K mg base CX0 4 (f_Parser_read_name K) (fd_Parser_read_name K) ["self"] (spR K [] PName fun _ => RMk K) := ok_read_name E
    have GV : FnOk P w K mg base CX0 7 (f_Parser_read_value K) (fd_Parser_read_value K) ["self", "declaring", "hidden"] (spR K [.bl true, .bl false] PVl fun _ => RVl K) := ok_read_value E
    have GM : FnOk P w K mg base CX0 1 (f_Entry___init__ K) (fd_Entry___init__ K) ["self", "mark", "hidden", "value"] (spEntry K) := ok_Entry E
    have C := E.C_Parser.c
    have nd := sc_Parser_read_entry.nd
    refine ⟨_, pss_cons (ps_set (i := 2) nd rfl (.inl rfl) (pe_and (pv 1) (pe_one (pe_meth (pv 0) C E.M_Parser_accepts.m GA (hr.mono (by decide)) E.M_Parser_accepts.b .nil pass0 (pa_cons pe_str pa_nil)))))
      <| pss_cons (ps_set (i := 3) nd rfl (.inl rfl) (pe_meth0 (pv 0) C E.M_Parser_read_name.m GN (hr.mono (by decide)) E.M_Parser_read_name.b .nil pass0))
      <| pss_cons (ps_expr (pe_meth (pv 0) C E.M_Parser_expect.m GE (hr.mono (by decide)) E.M_Parser_expect.b .nil pass0 (pa_cons pe_str pa_nil)))
      <| pss_one (ps_ret (pe_make E.C_Entry.k GM (hr.mono (by decide)) (by rfl) E.C_Entry.g E.C_Entry.b .nil pass0 (pa_cons (pv 3) <| pa_cons (pv 2)
        <| pa_cons (pe_meth (pv 0) C E.M_Parser_read_value.m GV hr E.M_Parser_read_value.b .nil pass0 (pa_cons (pv 1) <| pa_cons (pv 2) pa_nil)) pa_nil))), ?_⟩
    obtain ⟨rfl, nm⟩ := id h1
    have nl : d.m.n ≠ "let" := fun e => absurd nm (by rw [e]; decide +kernel)
    refine ⟨_, rfl, _, rfl, iteT (pAccF hP nl rfl ?_)⟩
    refine pRd hP rfl (fun _ _ _ _ => rfl) h1 fun H1 mv st1 P1 r1 => ?_
    refine pExp P1 h2 rfl fun H2 st2 P2 => ?_
    refine ⟨_, rfl, _, rfl, ?_⟩
    obtain ⟨a2, p2⟩ := par_ins P2
    refine ⟨_, rfl, p, g.dx, _, rfl, p2, rfl, _, rfl, _, rfl, p, g, d.v, L2, L', rfl, P2, h3, fun H3 vv st3 P3 r3 => ?_⟩
    obtain ⟨mp, md, rfl, hm⟩ := ((r1.st (St.same nw_same)).st (st2.trans st3)).obj
    have s3 := st1.trans (st2.trans st3)
    refine make_of (fl := fEnt (.int d.m.i) (.str d.m.n) (.bl false) vv) (fun p' dx H7 h7 sm7 Q' q' => ⟨p', dx, _, _, mp, md, _, _, rfl, h7, sm7 _ _ hm, q'⟩) fun x dx H7 sm7 hx h7 => ?_
    exact q H7 (.ref x) (s3.trans (St.same sm7)) (P3.same sm7) ⟨x, dx, vv, rfl, nw_at (s3.nn hx) h7, r3.st (nw_st (st1.tr.trans st2.tr) (St.same sm7))⟩
end
end V5

set_option maxHeartbeats 2000000
/-! The readers of bodies, templates, files. -/
namespace V5
open PySem PySem.Spec PyProof.Rows L2 K2

def PEs : List En → List Tk → List Tk → Prop
  | [], L, L' => L = L'
  | e :: r, L, L' => ∃ L1, PEn e L L1 ∧ PEs r L1 L'
def PBo (b : Bo) (L L' : List Tk) : Prop := ∃ L1 L2, L = (b.i, ("{" : Str)) :: L1 ∧ PEs b.es L1 L2 ∧ PTok "}" L2 L' ∧ b.es.length ≤ 1000
def PBoD (d : Bool) (b : Bo) (L L' : List Tk) : Prop := PBo b L L' ∧ (d = false → b.es = [])
def PPar : Option Mk → List Tk → List Tk → Prop
  | none, L, L' => PNext ["="] L ∧ L = L'
  | some m, L, L' => ∃ L1, PTok "=" L L1 ∧ PName m L1 L'
def POw (o : Ow) (L L' : List Tk) : Prop := ∃ L1 L2 L3, PTok "template" L L1 ∧ PName o.m L1 L2 ∧ PPar o.par L2 L3 ∧ PBoD o.par.isNone o.b L3 L'
theorem PEn.hd {e : En} {L L' : List Tk} (h : PEn e L L') : ∃ i s M, L = (i, s) :: M ∧ isNm s = true := by
  obtain ⟨L1, L2, ⟨e1, n⟩, _⟩ := h
  exact ⟨_, _, _, e1, n⟩
/-- a new instance whose __init__ makes more than its fields -/
theorem make_of2 {C : Addr} {vs : List V} {sp : Sp} {H1 : Hp} {Q : VK} {E : XK}
    (h : ∀ p dx H, H p = some (.ins C dx []) → Same H1 H → H1 p = none → sp (.ref p :: vs) H (fun v H2 => v = .non ∧ Q (.ref p) H2) E) :
    ∀ x dx, H1 x = none → H1 dx = none → dx ≠ x → sp (.ref x :: (vs ++ [])) (upd (upd H1 dx (.own x)) x (.ins C dx [])) (fun v H2 => v = .non ∧ Q (.ref x) H2) E := by
  intro x dx hx hdx ne
  rw [List.append_nil]
  exact h x dx _ upd_same (fun b o e => by
    rw [upd_ne (ne_of_none e hx), upd_ne (ne_of_none e hdx)]
    exact e) hx
section
variable {P : Program} {w : World} {K : PySem.W.Frag} {mg : Str → Option Value} {base : Heap}
theorem ok_read_body (E : Env K mg) (d : Bool) : FnOk P w K mg base CX0 9 (f_Parser_read_body K) (fd_Parser_read_body K) ["self", "declaring"] (spR K [.bl d] (PBoD d) fun _ H => RBo K H d) := by
  refine E.F_Parser_read_body.ok sc_Parser_read_body (fun vs H Q E h => ?_) (fun cdv A outer s H vs Q E1 hr h => ?_)
  · obtain ⟨p, g, d, L, L', rfl, _⟩ := h
    rfl
  · obtain ⟨p, g, b, L, L', rfl, hP, ⟨⟨L1, L2, rfl, h2, h3, hlen⟩, h0⟩, q⟩ := h
    have GT : FnOk P w K mg base CX0 1 (f_Parser_token K) (fd_Parser_token K) ["self"] (spToken K) := ok_token E
    have GH : FnOk P w K mg base CX0 1 (f_Parser_here K) (fd_Parser_here K) ["self"] (spHere K) := ok_here E
    have GE : FnOk P w K mg base CX0 2 (f_Parser_expect K) (fd_Parser_expect K) ["self", "token"] (spExpect K) := ok_expect E
    have GN : FnOk P w K mg base CX0 8 (f_Parser_read_entry K) (fd_Parser_read_entry K) ["self", "declaring"] (spR K [.bl true] PEn fun _ => REn K) := ok_read_entry E
    have GM : FnOk P w K mg base CX0 1 (f_Body___init__ K) (fd_Body___init__ K) ["self", "index", "declaring", "entries"] (spBody K) := ok_Body E
    have C := E.C_Parser.c
    have nd := sc_Parser_read_body.nd
    refine ⟨_, pss_cons (ps_set (i := 2) nd rfl (.inl rfl) (pe_meth0 (pv 0) C E.M_Parser_here.m GH (hr.mono (by decide)) E.M_Parser_here.b .nil pass0))
      <| pss_cons (ps_expr (pe_meth (pv 0) C E.M_Parser_expect.m GE (hr.mono (by decide)) E.M_Parser_expect.b .nil pass0 (pa_cons pe_str pa_nil)))
      <| pss_cons (ps_set (i := 3) nd rfl (.inl rfl) (pe_lst pa_nil))
      <| pss_cons (ps_while PassesOwn.never (pt_cmpR op_ne (pe_meth0 (pv 0) C E.M_Parser_token.m GT (hr.mono (by decide)) E.M_Parser_token.b .nil pass0) pe_str (nomark _))
          (pss_one (ps_expr (pe_bm PySem.F.plainAttrs_list PySem.F.slot_list_append PySem.F.type_list_append mt_append (pv 3) (pa_cons (pe_meth (pv 0) C E.M_Parser_read_entry.m GN hr E.M_Parser_read_entry.b .nil pass0 (pa_cons (pv 1) pa_nil)) pa_nil)))))
      <| pss_cons (ps_expr (pe_meth (pv 0) C E.M_Parser_expect.m GE (hr.mono (by decide)) E.M_Parser_expect.b .nil pass0 (pa_cons pe_str pa_nil)))
      <| pss_one (ps_ret (pe_make E.C_Body.k GM (hr.mono (by decide)) (by rfl) E.C_Body.g E.C_Body.b .nil pass0 (pa_cons (pv 2) <| pa_cons (pv 1) <| pa_cons (pv 3) pa_nil))), ?_⟩
    refine pHere hP rfl ?_
    refine pExp hP ⟨b.i, rfl⟩ rfl fun H1 st1 P1 => ?_
    refine ⟨by decide, fun l hl => ?_⟩
    have gl := P1.ne hl
    have P2 := P1.same (same_new (o := .lst []) hl)
    have st2 : St H (upd H1 l (.lst [])) := st1.trans (St.same (same_new hl))
    have lN : H l = none := st1.nn hl
    have l2 : (upd H1 l (.lst [])) l = some (.lst []) := upd_same
    generalize upd H1 l (.lst []) = H2 at P2 st2 l2 ⊢
    refine ⟨fun m σ H' => ∃ (r' : List En) (L4 : List Tk) (evs : List V) (done : List En), m = r'.length ∧ σ = [some (.ref p), some (.bl d), some (.int b.i), some (.ref l)] ∧ St H H' ∧ Par K H' p g L4 ∧ H' l = some (.lst evs) ∧ A2 (REn K (nw H2 H')) evs done ∧ done ++ r' = b.es ∧ PEs r' L4 L2 ∧ Tr H2 H',
      ⟨_, b.es, L1, [], [], rfl, rfl, st2, P2, l2, .nil, rfl, h2, Tr.refl _⟩, ?_⟩
    rintro m σ H5 ⟨r', L4, evs, done, rfl, rfl, st5, P5, l5, r5, ed, h5, t5⟩
    cases r' with
    | nil =>
      have e5 : L4 = L2 := h5
      subst e5
      obtain ⟨i4, rfl⟩ := h3
      refine pTok P5 rfl ⟨rfl, _, rfl, ?_⟩
      rw [dec_str, decide_eq_true rfl]
      refine iteF (pExp P5 ⟨i4, rfl⟩ rfl fun H6 st6 P6 => ?_)
      rw [List.append_nil] at ed
      subst ed
      refine ⟨_, rfl, _, rfl, _, rfl, ?_⟩
      have l6 := st6.at l5 rfl
      have s6 := st5.trans st6
      have r6 : A2 (REn K H6) evs b.es := r5.imp fun _ _ z => (z.st (St.same nw_same)).st st6
      refine make_of2 fun x dx H7 h7 sm7 hx => ⟨x, dx, l, b.i, d, evs, b.es, rfl, h7, sm7 _ _ l6, r6.imp fun _ _ z => z.st (St.same sm7), hlen, fun H8 nd8 k8 n8 e8 f8 => ⟨rfl, ?_⟩⟩
      have sm8 : Same H6 H8 := fun b o e => k8 b o (sm7 b o e) (ne_of_none e hx)
      have s8 := st6.trans (St.same sm8)
      refine q H8 (.ref x) (s6.trans (St.same sm8)) (P6.same sm8) ⟨x, dx, l, nd8, evs, rfl, nw_at (s6.nn hx) e8, nw_at lN (s8.at l5 rfl), r5.imp fun _ _ z => z.st (nw_st st2.tr s8), nw_at (s6.nn ?_) f8⟩
      cases z : H6 nd8 with
      | none => rfl
      | some o => exact absurd (sm7 _ _ z) (by rw [n8]; exact fun z => nomatch z)
    | cons c' r' =>
      obtain ⟨L6, h6, h8⟩ := h5
      have dt : d = true := by
        cases d with
        | true => rfl
        | false =>
          have z := h0 rfl
          rw [z] at ed
          exact absurd (congrArg List.length ed) (by simp)
      subst dt
      obtain ⟨i6, s6, M, eL, nm⟩ := id h6.hd
      have ns : s6 ≠ "}" := by
        rintro rfl
        exact absurd nm (by decide +kernel)
      subst eL
      refine pTok P5 rfl ⟨rfl, _, rfl, ?_⟩
      rw [dec_str, decide_eq_false ns]
      refine iteT ?_
      refine ⟨fun σ' H' => ∃ m', m' < r'.length + 1 ∧ ∃ (r' : List En) (L4 : List Tk) (evs : List V) (done : List En), m' = r'.length ∧ σ' = [some (.ref p), some (.bl true), some (.int b.i), some (.ref l)] ∧ St H H' ∧ Par K H' p g L4 ∧ H' l = some (.lst evs) ∧ A2 (REn K (nw H2 H')) evs done ∧ done ++ r' = b.es ∧ PEs r' L4 L2 ∧ Tr H2 H', fun _ _ w => w, ?_⟩
      refine ⟨_, rfl, .inl ⟨rfl, _, SqL.of l5⟩, ?_⟩
      obtain ⟨a5, p5⟩ := par_ins P5
      refine ⟨_, rfl, p, g.dx, _, rfl, p5, rfl, _, rfl, p, g, c', _, L6, rfl, P5, h6, fun H7 v' st7 P7 r7 => ?_⟩
      have l7 := st7.at l5 rfl
      have len : evs.length < sizeLine := by
        have := congrArg List.length ed
        rw [List.length_append, List.length_cons] at this
        have e2 := r5.len
        have : evs.length ≤ 1000 := by omega
        exact small1000 this
      refine ⟨l, evs, v', rfl, rfl, l7, len, r'.length, Nat.lt_succ_self _, r', L6, evs ++ [v'], done ++ [c'], rfl, rfl, (st5.trans st7).own lN, P7.own l7 gl, upd_same, ?_, by rw [List.append_assoc]; exact ed, h8, (t5.trans st7.tr).put⟩
      rw [nw_own l2]
      exact (r5.imp fun _ _ x => x.st (nw_st (Tr.refl _) st7)).snoc (r7.st (nw_st t5 (St.refl _)))
theorem ok_read_template (E : Env K mg) : FnOk P w K mg base CX0 10 (f_Parser_read_template K) (fd_Parser_read_template K) ["self"] (spR K [] POw fun f H => ROw K H f) := by
  refine E.F_Parser_read_template.ok sc_Parser_read_template (fun vs H Q E h => ?_) (fun cdv A outer s H vs Q E1 hr h => ?_)
  · obtain ⟨p, g, d, L, L', rfl, _⟩ := h
    rfl
  · obtain ⟨p, g, o, L, L', rfl, hP, ⟨L1, L2, L3, h1, h2, h3, h4⟩, q⟩ := h
    have GE : FnOk P w K mg base CX0 2 (f_Parser_expect K) (fd_Parser_expect K) ["self", "token"] (spExpect K) := ok_expect E
    have GA : FnOk P w K mg base CX0 2 (f_Parser_accepts K) (fd_Parser_accepts K) ["self", "token"] (spAccepts K) := ok_accepts E
    have GN : FnOk P w K mg base CX0 4 (f_Parser_read_name K) (fd_Parser_read_name K) ["self"] (spR K [] PName fun _ => RMk K) := ok_read_name E
    have GB : FnOk P w K mg base CX0 9 (f_Parser_read_body K) (fd_Parser_read_body K) ["self", "declaring"] (spR K [.bl o.par.isNone] (PBoD o.par.isNone) fun _ H => RBo K H o.par.isNone) := ok_read_body E _
    have GM : FnOk P w K mg base CX0 1 (f_Owner___init__ K) (fd_Owner___init__ K) ["self", "file", "mark", "parent", "body"] (spOwner K) := ok_Owner E
    have C := E.C_Parser.c
    have nd := sc_Parser_read_template.nd
    refine ⟨_, pss_cons (ps_expr (pe_meth (pv 0) C E.M_Parser_expect.m GE (hr.mono (by decide)) E.M_Parser_expect.b .nil pass0 (pa_cons pe_str pa_nil)))
      <| pss_cons (ps_set (i := 1) nd rfl (.inl rfl) (pe_meth0 (pv 0) C E.M_Parser_read_name.m GN (hr.mono (by decide)) E.M_Parser_read_name.b .nil pass0))
      <| pss_cons (ps_set (i := 2) nd rfl (.inl rfl) (pe_ifExp (pt_val (pe_meth (pv 0) C E.M_Parser_accepts.m GA (hr.mono (by decide)) E.M_Parser_accepts.b .nil pass0 (pa_cons pe_str pa_nil)))
          (pe_meth0 (pv 0) C E.M_Parser_read_name.m GN (hr.mono (by decide)) E.M_Parser_read_name.b .nil pass0) pe_non))
      <| pss_one (ps_ret (pe_make E.C_Owner.k GM (hr.mono (by decide)) (by rfl) E.C_Owner.g E.C_Owner.b .nil pass0 (pa_cons (pe_fld (pv 0) rfl) <| pa_cons (pv 1) <| pa_cons (pv 2)
        <| pa_cons (pe_meth (pv 0) C E.M_Parser_read_body.m GB hr E.M_Parser_read_body.b .nil pass0 (pa_cons (pe_cmpR op_isN (pv 2) pe_non (nomark _)) pa_nil)) pa_nil))), ?_⟩
    refine pExp hP h1 rfl fun H1 st1 P1 => ?_
    refine pRd P1 rfl (fun _ _ _ _ => rfl) h2 fun H2 mv st2 P2 r2 => ?_
    dsimp only
    show tAsg (tIf _ _ _) _ _ _ _
    show tIf _ _ _ _ _ _
    refine joinE (t := tIf _ _ _) (R := fun v H3 => St H2 H3 ∧ Par K H3 p g L3 ∧ RPar K (nw H2 H3) v o.par ∧ decide (v = .non) = o.par.isNone) (fun Q' m => ?_) (fun pv H3 ⟨st3, P3, r3, dn⟩ => ?_)
    · cases hp : o.par with
      | none =>
        rw [hp] at h3
        obtain ⟨h3, rfl⟩ := h3
        exact h3.acc P2 (by simp) rfl ⟨_, rfl, iteF (m _ _ ⟨St.refl _, P2, by rw [hp]; rfl, by rw [hp]; rfl⟩)⟩
      | some n =>
        rw [hp] at h3
        obtain ⟨L4, h5, h6⟩ := h3
        refine pAccT P2 h5 rfl fun H3 st3 P3 => ⟨_, rfl, iteT ?_⟩
        refine pRd P3 rfl (fun _ _ _ _ => rfl) h6 fun H4 v st4 P4 r4 => m _ _ ⟨st3.trans st4, P4, by rw [hp]; exact r4.st (nw_st st3.tr (St.refl _)), ?_⟩
        rw [hp]
        obtain ⟨vp, vd, rfl, _⟩ := r4
        exact decide_eq_false (fun z => nomatch z)
    · obtain ⟨a3, p3⟩ := par_ins P3
      refine ⟨_, rfl, p, _, g.dx, _, _, rfl, p3, C, E.n_Parser_file, rfl, _, rfl, _, rfl, _, rfl, p, g.dx, _, rfl, p3, rfl, _, rfl, rfl, ?_⟩
      rw [dn]
      refine ⟨p, g, o.b, L3, L', rfl, P3, h4, fun H4 bv st4 P4 r4 => ?_⟩
      have s4 := st1.trans (st2.trans (st3.trans st4))
      obtain ⟨mp, md, rfl, hm⟩ := ((r2.st (St.same nw_same)).st (st3.trans st4)).obj
      refine make_of (fl := fOwn (.str g.f) (.int o.m.i) (.str o.m.n) pv bv) (fun p' dx H7 h7 sm7 Q' q' => ⟨p', dx, _, _, _, mp, md, _, _, rfl, h7, sm7 _ _ hm, q'⟩) fun x dx H7 sm7 hx h7 => ?_
      exact q H7 (.ref x) (s4.trans (St.same sm7)) (P4.same sm7) ⟨x, dx, pv, bv, rfl, nw_at (s4.nn hx) h7, r3.st (nw_st (st1.tr.trans st2.tr) (st4.trans (St.same sm7))), r4.st (nw_st (st1.tr.trans (st2.tr.trans st3.tr)) (St.same sm7))⟩
end
end V5

set_option maxHeartbeats 2000000
/-! The reader of files. -/
namespace V5
open PySem PySem.Spec PyProof.Rows L2 K2

def PDe : De → List Tk → List Tk → Prop
  | .ow o => POw o
  | .sk s => PSk s
def PIm : List Mk → List Tk → List Tk → Prop
  | [], L, L' => L = L'
  | m :: r, L, L' => ∃ L1 L2, PTok "\x69mport" L L1 ∧ PName m L1 L2 ∧ PIm r L2 L'
def PDs : List De → List Tk → List Tk → Prop
  | [], L, L' => L = L'
  | d :: r, L, L' => ∃ L1, PDe d L L1 ∧ PDs r L1 L'
def PFi (t : List Mk × List De) (L L' : List Tk) : Prop := ∃ L1 n, PIm t.1 L L1 ∧ PDs t.2 L1 L' ∧ L' = [(n, ("" : Str))] ∧ t.1.length ≤ 1000 ∧ t.2.length ≤ 1000
theorem PDe.hd {d : De} {L L' : List Tk} (h : PDe d L L') : ∃ i s M, L = (i, s) :: M ∧ (s = "template" ∧ (∃ o, d = .ow o) ∨ s = "list" ∧ ∃ o, d = .sk o) := by
  cases d with
  | ow o =>
    obtain ⟨L1, L2, L3, ⟨i, e⟩, _⟩ := h
    exact ⟨_, _, _, e, .inl ⟨rfl, o, rfl⟩⟩
  | sk o =>
    obtain ⟨L1, L2, L3, L4, ⟨i, e⟩, _⟩ := h
    exact ⟨_, _, _, e, .inr ⟨rfl, o, rfl⟩⟩
theorem inV_hit {t a b : Str} (h : t = a ∨ t = b) : inV (.str t) [.str a, .str b] = true := by
  show ((a == t) || ((b == t) || false)) = true
  rcases h with h | h
  · subst h
    simp
  · subst h
    simp
section
variable {P : Program} {w : World} {K : PySem.W.Frag} {mg : Str → Option Value} {base : Heap}
theorem ok_read_file (E : Env K mg) : FnOk P w K mg base CX0 11 (f_Parser_read_file K) (fd_Parser_read_file K) ["self"] (spR K [] PFi fun f H v t => RFi K H v ⟨f, t.1, t.2⟩) := by
  refine E.F_Parser_read_file.ok sc_Parser_read_file (fun vs H Q E h => ?_) (fun cdv A outer s H vs Q E1 hr h => ?_)
  · obtain ⟨p, g, d, L, L', rfl, _⟩ := h
    rfl
  · obtain ⟨p, g, ⟨im, ds⟩, L, L', rfl, hP, ⟨L1, n, h1, h2, rfl, hi, hn⟩, q⟩ := h
    have GT : FnOk P w K mg base CX0 1 (f_Parser_token K) (fd_Parser_token K) ["self"] (spToken K) := ok_token E
    have GA : FnOk P w K mg base CX0 2 (f_Parser_accepts K) (fd_Parser_accepts K) ["self", "token"] (spAccepts K) := ok_accepts E
    have GN : FnOk P w K mg base CX0 4 (f_Parser_read_name K) (fd_Parser_read_name K) ["self"] (spR K [] PName fun _ => RMk K) := ok_read_name E
    have GO : FnOk P w K mg base CX0 10 (f_Parser_read_template K) (fd_Parser_read_template K) ["self"] (spR K [] POw fun f H => ROw K H f) := ok_read_template E
    have GS : FnOk P w K mg base CX0 7 (f_Parser_read_stock K) (fd_Parser_read_stock K) ["self"] (spR K [] PSk fun f H => RSk K H f) := ok_read_stock E
    have GM : FnOk P w K mg base CX0 1 (f_FileTree___init__ K) (fd_FileTree___init__ K) ["self", "name"] (spTree K) := ok_Tree E
    have C := E.C_Parser.c
    have nd := sc_Parser_read_file.nd
    refine ⟨_, pss_cons (ps_set (i := 1) nd rfl (.inl rfl) (pe_make E.C_FileTree.k GM (hr.mono (by decide)) (by rfl) E.C_FileTree.g E.C_FileTree.b .nil pass0 (pa_cons (pe_fld (pv 0) rfl) pa_nil)))
      <| pss_cons (ps_while PassesOwn.never (pt_val (pe_meth (pv 0) C E.M_Parser_accepts.m GA (hr.mono (by decide)) E.M_Parser_accepts.b .nil pass0 (pa_cons pe_str pa_nil)))
          (pss_one (ps_expr (pe_bm PySem.F.plainAttrs_list PySem.F.slot_list_append PySem.F.type_list_append mt_append (pe_fld (pv 1) rfl) (pa_cons (pe_meth0 (pv 0) C E.M_Parser_read_name.m GN (hr.mono (by decide)) E.M_Parser_read_name.b .nil pass0) pa_nil)))))
      <| pss_cons (ps_while PassesOwn.never (pt_cmpR op_in_seq (pe_meth0 (pv 0) C E.M_Parser_token.m GT (hr.mono (by decide)) E.M_Parser_token.b .nil pass0) (pe_tup (pa_cons pe_str (pa_cons pe_str pa_nil))) (by with_unfolding_all rfl))
          (pss_one (ps_expr (pe_bm PySem.F.plainAttrs_list PySem.F.slot_list_append PySem.F.type_list_append mt_append (pe_fld (pv 1) rfl)
            (pa_cons (pe_ifExp (pt_cmpR op_eq (pe_meth0 (pv 0) C E.M_Parser_token.m GT (hr.mono (by decide)) E.M_Parser_token.b .nil pass0) pe_str (nomark _))
              (pe_meth0 (pv 0) C E.M_Parser_read_template.m GO hr E.M_Parser_read_template.b .nil pass0) (pe_meth0 (pv 0) C E.M_Parser_read_stock.m GS (hr.mono (by decide)) E.M_Parser_read_stock.b .nil pass0)) pa_nil)))))
      <| pss_cons (ps_if (pt_cmpR op_eq (pe_meth0 (pv 0) C E.M_Parser_token.m GT (hr.mono (by decide)) E.M_Parser_token.b .nil pass0) pe_str (nomark _)) (pss_cons ps_never <| pss_cons ps_never <| pss_one ps_never) pss_nil)
      <| pss_cons (ps_if (PW.pt (pw_or (pt_cmpR op_ne (pe_meth0 (pv 0) C E.M_Parser_token.m GT (hr.mono (by decide)) E.M_Parser_token.b .nil pass0) pe_str (nomark _)) (pw_or1 (pt_cmpR op_eq (pe_fld (pv 0) rfl) pe_str (nomark _))))) (pss_one ps_never) pss_nil)
      <| pss_one (ps_ret (pv 1)), ?_⟩
    obtain ⟨a0, p0⟩ := par_ins hP
    refine ⟨_, rfl, p, _, g.dx, _, _, rfl, p0, C, E.n_Parser_file, rfl, ?_⟩
    intro t dx htN hdxN nex
    have sm1 : Same H (upd (upd H dx (.own t)) t (.ins (cFileTree K) dx [])) := fun b o e => by
      rw [upd_ne (ne_of_none e htN), upd_ne (ne_of_none e hdxN)]
      exact e
    refine ⟨t, dx, _, rfl, upd_same, fun H2 li ld k2 nli nld nn e2 i2 d2 => ⟨rfl, ?_⟩⟩
    have sm2 : Same H H2 := fun b o e => k2 b o (sm1 b o e) (ne_of_none e htN)
    have P2 := hP.same sm2
    have liN : H li = none := by
      cases z : H li with
      | none => rfl
      | some o => exact absurd (sm1 _ _ z) (by rw [nli]; exact fun z => nomatch z)
    have ldN : H ld = none := by
      cases z : H ld with
      | none => rfl
      | some o => exact absurd (sm1 _ _ z) (by rw [nld]; exact fun z => nomatch z)
    have gi : g.l ≠ li := hP.ne liN
    have gd : g.l ≠ ld := hP.ne ldN
    have tli : t ≠ li := by
      rintro rfl
      rw [e2] at i2
      cases i2
    have tld : t ≠ ld := by
      rintro rfl
      rw [e2] at d2
      cases d2
    have st2 : St H H2 := St.same sm2
    -- the names of other files
    refine ⟨fun m σ H' => ∃ (r' : List Mk) (L4 : List Tk) (ivs : List V) (done : List Mk), m = r'.length ∧ σ = [some (.ref p), some (.ref t), none] ∧ St H H' ∧ Par K H' p g L4 ∧ H' t = some (.ins (cFileTree K) dx (fTree (.str g.f) (.ref li) (.ref ld) .non)) ∧ H' li = some (.lst ivs) ∧ H' ld = some (.lst []) ∧
        A2 (RMk K (nw H2 H')) ivs done ∧ done ++ r' = im ∧ PIm r' L4 L1 ∧ Tr H2 H',
      ⟨_, im, L, [], [], rfl, rfl, st2, P2, e2, i2, d2, .nil, rfl, h1, Tr.refl _⟩, ?_⟩
    rintro m σ H3 ⟨r', L4, ivs, done, rfl, rfl, st3, P3, e3, i3, d3, r3, ed, h3, t3⟩
    cases r' with
    | cons c' r' =>
      obtain ⟨L5, L6, h5, h6, h7⟩ := h3
      refine pAccT P3 h5 rfl fun H4 st4 P4 => ⟨_, rfl, iteT ?_⟩
      refine ⟨fun σ' H' => ∃ m', m' < r'.length + 1 ∧ ∃ (r' : List Mk) (L4 : List Tk) (ivs : List V) (done : List Mk), m' = r'.length ∧ σ' = [some (.ref p), some (.ref t), none] ∧ St H H' ∧ Par K H' p g L4 ∧ H' t = some (.ins (cFileTree K) dx (fTree (.str g.f) (.ref li) (.ref ld) .non)) ∧ H' li = some (.lst ivs) ∧ H' ld = some (.lst []) ∧
        A2 (RMk K (nw H2 H')) ivs done ∧ done ++ r' = im ∧ PIm r' L4 L1 ∧ Tr H2 H', fun _ _ w => w, ?_⟩
      have e4 := st4.at e3 rfl
      refine ⟨_, rfl, t, _, dx, _, _, rfl, e4, E.C_FileTree.c, E.n_FileTree_imports, rfl, .inl ⟨rfl, _, SqL.of (st4.at i3 rfl)⟩, ?_⟩
      refine pRd P4 rfl (fun _ _ _ _ => rfl) h6 fun H5 v st5 P5 r5 => ?_
      have s35 := st4.trans st5
      have i5 := s35.at i3 rfl
      have len : ivs.length < sizeLine := by
        have := congrArg List.length ed
        rw [List.length_append, List.length_cons] at this
        have e2 := r3.len
        have : ivs.length ≤ 1000 := by
          have : im.length ≤ 1000 := hi
          omega
        exact small1000 this
      refine ⟨li, ivs, v, rfl, rfl, i5, len, r'.length, Nat.lt_succ_self _, r', L6, ivs ++ [v], done ++ [c'], rfl, rfl, (st3.trans s35).own liN, P5.own i5 gi, by rw [upd_ne tli]; exact s35.at e3 rfl, upd_same, by rw [upd_ne (Ne.symm nn)]; exact s35.at d3 rfl, ?_, by rw [List.append_assoc]; exact ed, h7, (t3.trans s35.tr).put⟩
      rw [nw_own i2]
      exact (r3.imp fun _ _ x => x.st (nw_st (Tr.refl _) s35)).snoc (r5.st (nw_st (t3.trans st4.tr) (St.refl _)))
    | nil =>
      have e5 : L4 = L1 := h3
      subst e5
      rw [List.append_nil] at ed
      subst ed
      have hL : ∃ i s M, L4 = (i, s) :: M ∧ s ≠ "\x69mport" := by
        cases ds with
        | nil =>
          have : L4 = [(n, ("" : Str))] := h2
          exact ⟨_, _, _, this, by decide +kernel⟩
        | cons d r =>
          obtain ⟨M1, hd, _⟩ := h2
          obtain ⟨i, s, M, e, z⟩ := hd.hd
          refine ⟨i, s, M, e, ?_⟩
          rcases z with ⟨rfl, _⟩ | ⟨rfl, _⟩ <;> decide +kernel
      obtain ⟨i0, s0, M0, eL, ns⟩ := hL
      have P3' := P3
      rw [eL] at P3'
      refine pAccF P3' ns rfl ⟨_, rfl, iteF ?_⟩
      clear P3' eL ns
      -- templates and lists
      refine ⟨fun m σ H' => ∃ (r' : List De) (L5 : List Tk) (dvs : List V) (done2 : List De), m = r'.length ∧ σ = [some (.ref p), some (.ref t), none] ∧ St H H' ∧ Par K H' p g L5 ∧ H' t = some (.ins (cFileTree K) dx (fTree (.str g.f) (.ref li) (.ref ld) .non)) ∧ H' li = some (.lst ivs) ∧ H' ld = some (.lst dvs) ∧
          A2 (RMk K (nw H2 H')) ivs done ∧ A2 (RDe K (nw H2 H') g.f) dvs done2 ∧ done2 ++ r' = ds ∧ PDs r' L5 [(n, ("" : Str))] ∧ Tr H2 H',
        ⟨_, ds, L4, [], [], rfl, rfl, st3, P3, e3, i3, d3, r3, .nil, rfl, h2, t3⟩, ?_⟩
      rintro m σ H4 ⟨r', L5, dvs, done2, rfl, rfl, st4, P4, e4, i4, d4, r4, q4, ed4, h4, t4⟩
      have lenD : dvs.length ≤ ds.length := by
        have := congrArg List.length ed4
        rw [List.length_append] at this
        have e2 := q4.len
        omega
      cases r' with
      | cons d r' =>
        obtain ⟨L6, h6, h7⟩ := h4
        obtain ⟨i6, s6, M6, eL, hs6⟩ := h6.hd
        subst eL
        refine pTok P4 rfl ⟨by show 2 ≤ sizeLine; decide, fun t2 ht2 => ?_⟩
        have sm5 : Same H4 (upd H4 t2 (.tup [.str "template", .str "list"])) := same_new ht2
        refine ⟨t2, _, rfl, .inr (SqT.of upd_same), rfl, rfl, _, rfl, ?_⟩
        rw [inV_hit (hs6.imp (·.1) (·.1))]
        have P5 := P4.same sm5
        have e5 := sm5 _ _ e4
        have i5 := sm5 _ _ i4
        have d5 := sm5 _ _ d4
        have st5 := St.same sm5
        generalize upd H4 t2 (.tup [.str "template", .str "list"]) = H5 at P5 e5 i5 d5 st5 ⊢
        refine iteT ⟨fun σ' H' => ∃ m', m' < r'.length + 1 ∧ ∃ (r' : List De) (L5 : List Tk) (dvs : List V) (done2 : List De), m' = r'.length ∧ σ' = [some (.ref p), some (.ref t), none] ∧ St H H' ∧ Par K H' p g L5 ∧ H' t = some (.ins (cFileTree K) dx (fTree (.str g.f) (.ref li) (.ref ld) .non)) ∧ H' li = some (.lst ivs) ∧ H' ld = some (.lst dvs) ∧
          A2 (RMk K (nw H2 H')) ivs done ∧ A2 (RDe K (nw H2 H') g.f) dvs done2 ∧ done2 ++ r' = ds ∧ PDs r' L5 [(n, ("" : Str))] ∧ Tr H2 H', fun _ _ w => w, ?_⟩
        refine ⟨_, rfl, t, _, dx, _, _, rfl, e5, E.C_FileTree.c, E.n_FileTree_declared, rfl, .inl ⟨rfl, _, SqL.of d5⟩, ?_⟩
        have fin : ∀ H6 v, St H5 H6 → Par K H6 p g L6 → RDe K (nw H5 H6) g.f v d → ∃ l xs y, V.ref ld = .ref l ∧ [v] = [y] ∧ H6 l = some (.lst xs) ∧ xs.length < sizeLine ∧ (∃ m', m' < r'.length + 1 ∧ ∃ (r' : List De) (L5 : List Tk) (dvs : List V) (done2 : List De), m' = r'.length ∧ [some (V.ref p), some (.ref t), none] = [some (.ref p), some (.ref t), none] ∧ St H (upd H6 l (.lst (xs ++ [y]))) ∧ Par K (upd H6 l (.lst (xs ++ [y]))) p g L5 ∧ (upd H6 l (.lst (xs ++ [y]))) t = some (.ins (cFileTree K) dx (fTree (.str g.f) (.ref li) (.ref ld) .non)) ∧ (upd H6 l (.lst (xs ++ [y]))) li = some (.lst ivs) ∧ (upd H6 l (.lst (xs ++ [y]))) ld = some (.lst dvs) ∧
            A2 (RMk K (nw H2 (upd H6 l (.lst (xs ++ [y]))))) ivs done ∧ A2 (RDe K (nw H2 (upd H6 l (.lst (xs ++ [y])))) g.f) dvs done2 ∧ done2 ++ r' = ds ∧ PDs r' L5 [(n, ("" : Str))] ∧ Tr H2 (upd H6 l (.lst (xs ++ [y])))) := by
          intro H6 v st6 P6 r6
          have s46 := st5.trans st6
          have d6 := st6.at d5 rfl
          refine ⟨ld, dvs, v, rfl, rfl, d6, small1000 (Nat.le_trans lenD hn), r'.length, Nat.lt_succ_self _, r', L6, dvs ++ [v], done2 ++ [d], rfl, rfl, (st4.trans s46).own ldN, P6.own d6 gd, by rw [upd_ne tld]; exact st6.at e5 rfl, by rw [upd_ne nn]; exact st6.at i5 rfl, upd_same, ?_, ?_, by rw [List.append_assoc]; exact ed4, h7, (t4.trans s46.tr).put⟩
          · rw [nw_own d2]
            exact r4.imp fun _ _ x => x.st (nw_st (Tr.refl _) s46)
          · rw [nw_own d2]
            exact (q4.imp fun _ _ x => x.st (nw_st (Tr.refl _) s46)).snoc (r6.st (nw_st (t4.trans st5.tr) (St.refl _)))
        refine pTok P5 rfl ⟨rfl, _, rfl, ?_⟩
        rw [dec_str]
        rcases hs6 with ⟨rfl, o, rfl⟩ | ⟨rfl, o, rfl⟩
        · rw [decide_eq_true rfl]
          exact iteT (pRd P5 rfl (fun _ _ _ _ => rfl) h6 fun H6 v st6 P6 r6 => fin H6 v st6 P6 r6)
        · rw [decide_eq_false (by decide +kernel)]
          exact iteF (pRd P5 rfl (fun _ _ _ _ => rfl) h6 fun H6 v st6 P6 r6 => fin H6 v st6 P6 r6)
      | nil =>
        have e5 : L5 = [(n, ("" : Str))] := h4
        subst e5
        rw [List.append_nil] at ed4
        subst ed4
        refine pTok P4 rfl ⟨by show 2 ≤ sizeLine; decide, fun t2 ht2 => ?_⟩
        have sm5 : Same H4 (upd H4 t2 (.tup [.str "template", .str "list"])) := same_new ht2
        refine ⟨t2, _, rfl, .inr (SqT.of upd_same), rfl, rfl, _, rfl, ?_⟩
        rw [inV_two (by decide +kernel) (by decide +kernel)]
        have P5 := P4.same sm5
        have st5 := St.same sm5
        generalize upd H4 t2 (.tup [.str "template", .str "list"]) = H5 at P5 st5 ⊢
        refine iteF (pTok P5 rfl ⟨rfl, _, rfl, ?_⟩)
        rw [dec_str, decide_eq_false (by decide +kernel)]
        refine iteF (pTok P5 rfl ⟨rfl, _, rfl, ?_⟩)
        rw [dec_str, decide_eq_true rfl]
        obtain ⟨a5, p5⟩ := par_ins P5
        refine iteF ⟨_, rfl, p, _, g.dx, _, _, rfl, p5, C, E.n_Parser_end_word, rfl, rfl, _, rfl, ?_⟩
        rw [dec_str, decide_eq_false (by decide +kernel)]
        refine iteF ⟨_, rfl, ?_⟩
        have nws := nw_st (Tr.refl H2) st5
        have s5 := st4.trans st5
        have n52 : St (nw H2 H5) (nw H H5) := nw_st st2.tr (St.refl _)
        refine q H5 (.ref t) s5 P5 ⟨t, dx, li, ld, ivs, dvs, rfl, nw_at htN (st5.at e4 rfl), nw_at liN (st5.at i4 rfl), r4.imp fun _ _ x => (x.st nws).st n52, nw_at ldN (st5.at d4 rfl), q4.imp fun _ _ x => (x.st nws).st n52⟩
end
end V5

set_option maxHeartbeats 2000000
/-! A file's tree. -/
namespace V5
open PySem PySem.Spec PyProof.Rows L2 K2

def spTreeOf (K : PySem.W.Frag) : Sp := fun vs H Q _ => ∃ (f x : Str) (t : List Mk × List De) (L' : List Tk), vs = [.str f, .str x] ∧ (cp x).length ≤ most ∧ clean (cp x) = true ∧ PFi t (toksE (cp x)) L' ∧
  ∀ H' v, St H H' → RFi K (nw H H') v ⟨f, t.1, t.2⟩ → Q v H'
section
variable {P : Program} {w : World} {K : PySem.W.Frag} {mg : Str → Option Value} {base : Heap}
theorem ok_tree_of (E : Env K mg) : FnOk P w K mg base CX0 12 (f_tree_of K) (fd_tree_of K) ["file", "text"] (spTreeOf K) := by
  refine E.F_tree_of.ok sc_tree_of (fun vs H Q E h => ?_) (fun cdv A outer s H vs Q E1 hr h => ?_)
  · obtain ⟨f, x, t, L', rfl, _⟩ := h
    rfl
  · obtain ⟨f, x, t, L', rfl, hm, hc, hp, q⟩ := h
    have GP : FnOk P w K mg base CX0 8 (f_Parser___init__ K) (fd_Parser___init__ K) ["self", "file", "text"] (spParser K) := ok_Parser E
    have GR : FnOk P w K mg base CX0 11 (f_Parser_read_file K) (fd_Parser_read_file K) ["self"] (spR K [] PFi fun f H v t => RFi K H v ⟨f, t.1, t.2⟩) := ok_read_file E
    refine ⟨_, pss_one (ps_ret (pe_meth0 (pe_make E.C_Parser.k GP (hr.mono (by decide)) (by rfl) E.C_Parser.g E.C_Parser.b .nil pass0 (pa_cons (pv 0) <| pa_cons (pv 1) pa_nil)) E.C_Parser.c E.M_Parser_read_file.m GR hr E.M_Parser_read_file.b .nil pass0)), ?_⟩
    refine ⟨_, rfl, _, rfl, ?_⟩
    intro p dx hpN hdN ne
    have sm1 : Same H (upd (upd H dx (.own p)) p (.ins (cParser K) dx [])) := fun b o e => by
      rw [upd_ne (ne_of_none e hpN), upd_ne (ne_of_none e hdN)]
      exact e
    refine ⟨p, dx, f, x, rfl, upd_same, hm, hc, fun H2 g k2 eg P2 => ⟨rfl, ?_⟩⟩
    have sm2 : Same H H2 := fun b o e => k2 b o (sm1 b o e) (ne_of_none e hpN)
    obtain ⟨a2, p2⟩ := par_ins P2
    refine ⟨p, g.dx, _, rfl, p2, rfl, p, g, t, _, L', rfl, P2, hp, fun H3 v st3 P3 r3 => ?_⟩
    subst eg
    exact q H3 v ((St.same sm2).trans st3) (r3.st (nw_st (St.same sm2).tr (St.refl _)))
end
end V5

set_option maxHeartbeats 2000000
/-! What stands twice; the files that are brought in. -/
namespace V5
open PySem PySem.Spec PyProof.Rows L2 K2

/-- the later ones of those that stand twice -/
def repF (seen : List Str) : List Mk → List Nat
  | [] => []
  | m :: r => (if m.n ∈ seen then [m.i] else []) ++ repF (seen ++ [m.n]) r
theorem repF_snoc (m : Mk) : ∀ (a : List Mk) (s : List Str), repF s (a ++ [m]) = repF s a ++ (if m.n ∈ s ++ a.map (·.n) then [m.i] else [])
  | [], s => by simp [repF]
  | b :: r, s => by
    rw [List.cons_append]
    unfold repF
    rw [repF_snoc m r, List.append_assoc, List.append_assoc, List.map_cons]
    rfl
/-- an object with a name and an index -/
def RNI (K : PySem.W.Frag) (H : Hp) (v : V) (m : Mk) : Prop := ∃ p C dx fs, v = .ref p ∧ H p = some (.ins C dx fs) ∧ Cls K C ∧ NoAttr K C "name" ∧ NoAttr K C "index" ∧ fs.lookup ("name" : Str) = some (.str m.n) ∧ fs.lookup ("index" : Str) = some (.int m.i)
theorem RNI.same {K : PySem.W.Frag} {H H' : Hp} (s : Same H H') {v : V} {m : Mk} : RNI K H v m → RNI K H' v m := fun ⟨p, C, dx, fs, e, h, r⟩ => ⟨p, C, dx, fs, e, s _ _ h, r⟩
def nms (ns : List Nat) : List V := ns.map fun n => V.int ((n : Nat) : Int)
theorem nms_app (a b : List Nat) : nms (a ++ b) = nms a ++ nms b := List.map_append
theorem nms_len (a : List Nat) : (nms a).length = a.length := List.length_map _
/-- a new list of nms -/
def Out (H H' : Hp) (v : V) (ns : List Nat) : Prop := ∃ l, v = .ref l ∧ H l = none ∧ H' l = some (.lst (nms ns)) ∧ Same H H'
def spRep (K : PySem.W.Frag) : Sp := fun vs H Q _ => ∃ (l : Addr) (xs : List V) (ms : List Mk), vs = [.ref l] ∧ H l = some (.lst xs) ∧ A2 (RNI K H) xs ms ∧ ms.length ≤ 1000 ∧ ∀ H' v, Out H H' v (repF [] ms) → Q v H'
theorem repF_len : ∀ (ms : List Mk) (s : List Str), (repF s ms).length ≤ ms.length
  | [], _ => Nat.le_refl 0
  | m :: r, s => by
    unfold repF
    have := repF_len r (s ++ [m.n])
    rw [List.length_append, List.length_cons]
    split <;> simp <;> omega
section
variable {P : Program} {w : World} {K : PySem.W.Frag} {mg : Str → Option Value} {base : Heap}
theorem ok_repeated (E : Env K mg) : FnOk P w K mg base CX0 1 (f_repeated K) (fd_repeated K) ["marks"] (spRep K) := by
  refine E.F_repeated.ok sc_repeated (fun vs H Q E h => ?_) (fun cdv A outer s H vs Q E1 hr h => ?_)
  · obtain ⟨l, xs, ms, rfl, _⟩ := h
    rfl
  · obtain ⟨l, xs, ms, rfl, hl, ha, hn, q⟩ := h
    have nd := sc_repeated.nd
    refine ⟨_, pss_cons (ps_set (i := 1) nd rfl (.inl rfl) (pe_lst pa_nil))
      <| pss_cons (ps_set (i := 2) nd rfl (.inl rfl) (pe_callTy0 (cr_set0K) (by rfl) E.u_set (by decide +kernel)))
      <| pss_cons (ps_for PassesOwn.never rfl (pi_list (pv 0)) (pg_name (i := 3) nd rfl (.inl rfl))
          (pss_cons (ps_if (pt_cmpR or_sinK (pe_fld (pv 3) rfl) (pv 2) rfl)
              (pss_one (ps_expr (pe_bm PySem.F.plainAttrs_list PySem.F.slot_list_append PySem.F.type_list_append mt_append (pv 1) (pa_cons (pe_fld (pv 3) rfl) pa_nil)))) pss_nil)
            <| pss_one (ps_expr (pe_saddK (pv 2) (pa_cons (pe_fld (pv 3) rfl) pa_nil)))))
      <| pss_one (ps_ret (pv 1)), ?_⟩
    refine ⟨by decide, fun fa hfa => ?_⟩
    have sm1 : Same H (upd H fa (.lst [])) := same_new hfa
    refine ⟨rfl, fun sn hsn => ?_⟩
    have nfs : fa ≠ sn := ne_of_none upd_same hsn
    have snN : H sn = none := by
      cases z : H sn with
      | none => rfl
      | some o => exact absurd (sm1 _ _ z) (by rw [hsn]; exact fun z => nomatch z)
    refine ⟨_, rfl, l, rfl, ⟨_, SqL.of (same_new hsn _ _ (sm1 _ _ hl))⟩, ?_⟩
    refine for_it (walk_list (K := K) (a := l) (xs := xs)) (fun i σ G => ∃ (x3 : Option V) (S : Key → Bool) (n : Nat), σ = [some (.ref l), some (.ref fa), some (.ref sn), x3] ∧ Same H G ∧ G fa = some (.lst (nms (repF [] (ms.take i)))) ∧ G sn = some (SetK P w sn S n) ∧
      (∀ x, S (.inr x) = decide (x ∈ (ms.take i).map (·.n))) ∧ n ≤ i) ⟨none, _, 0, rfl, fun b o e => same_new hsn _ _ (sm1 _ _ e), by rw [upd_ne nfs, upd_same]; rfl, upd_same, fun x => by simp, Nat.le_refl _⟩
      (fun i σ G _ ⟨_, _, _, _, sm, _⟩ => SqL.of (sm _ _ hl)) ?_ ?_
    · rintro i v σ G G' hi ⟨x3, S, n, rfl, sm, hf, hs, hS, hn'⟩ ⟨rfl, hv⟩
      obtain ⟨m, hm, p, C, dx, fs, rfl, hp, c1, c2, c3, c4, c5⟩ := (ha.imp fun _ _ z => z.same sm).getL hv
      have tk : ms.take (i + 1) = ms.take i ++ [m] := by rw [List.take_add_one, hm]; rfl
      have il : i < ms.length := (List.getElem?_eq_some_iff.mp hm).1
      have scan1 : n + 1 < scanBound := by
        show n + 1 < 4096
        omega
      refine ⟨_, rfl, p, C, dx, fs, _, rfl, hp, c1, c2, c4, _, rfl, .inr m.n, sn, S, n, rfl, rfl, hs, _, rfl, ?_⟩
      have rest : ∀ G2, Same H G2 → G2 fa = some (.lst (nms (repF [] (ms.take (i + 1))))) → G2 sn = some (SetK P w sn S n) → G2 p = some (.ins C dx fs) →
          ∃ (x3 : Option V) (S' : Key → Bool) (n' : Nat), [some (V.ref l), some (.ref fa), some (.ref sn), some (.ref p)] = [some (.ref l), some (.ref fa), some (.ref sn), x3] ∧ Same H (upd G2 sn (SetK P w sn (fun j => S j || decide (j = (Sum.inr m.n : Key))) (if S (.inr m.n) = true then n else n + 1))) ∧
            (upd G2 sn (SetK P w sn (fun j => S j || decide (j = (Sum.inr m.n : Key))) (if S (.inr m.n) = true then n else n + 1))) fa = some (.lst (nms (repF [] (ms.take (i + 1))))) ∧ (upd G2 sn (SetK P w sn (fun j => S j || decide (j = (Sum.inr m.n : Key))) (if S (.inr m.n) = true then n else n + 1))) sn = some (SetK P w sn S' n') ∧
            (∀ x, S' (.inr x) = decide (x ∈ (ms.take (i + 1)).map (·.n))) ∧ n' ≤ i + 1 := by
        intro G2 sm2 hf2 hs2 hp2
        refine ⟨_, _, _, rfl, fun b o e => by rw [upd_ne (ne_of_none e snN)]; exact sm2 _ _ e, by rw [upd_ne nfs]; exact hf2, upd_same, fun x => ?_, ?_⟩
        · rw [hS x, tk]
          simp only [List.map_append, List.map_cons, List.map_nil, List.mem_append, List.mem_singleton]
          by_cases e : x = m.n
          · subst e
            simp
          · simp [e]
        · split <;> omega
      show (if S (.inr m.n) = true then _ else _)
      rcases Bool.eq_false_or_eq_true (S (.inr m.n)) with hz | hz
      · rw [if_pos hz]
        have hin : m.n ∈ (ms.take i).map (·.n) := of_decide_eq_true ((hS m.n).symm.trans hz)
        refine ⟨_, rfl, .inl ⟨rfl, _, SqL.of hf⟩, _, rfl, p, C, dx, fs, _, rfl, hp, c1, c3, c5, fa, _, _, rfl, rfl, hf, ?_, ?_⟩
        · rw [nms_len]
          refine small1000 (Nat.le_trans (repF_len _ _) ?_)
          rw [List.length_take]
          omega
        have pf : p ≠ fa := by
          rintro rfl
          rw [hf] at hp
          cases hp
        refine ⟨_, rfl, ⟨sn, S, n, rfl, by rw [upd_ne (Ne.symm nfs)]; exact hs⟩, _, rfl, p, C, dx, fs, _, rfl, by rw [upd_ne pf]; exact hp, c1, c2, c4, sn, .inr m.n, S, n, rfl, rfl, by rw [upd_ne (Ne.symm nfs)]; exact hs, scan1, ?_⟩
        have rr := rest (upd G' fa (.lst (nms (repF [] (ms.take i)) ++ [.int m.i]))) (fun b o e => by rw [upd_ne (ne_of_none e hfa)]; exact sm _ _ e) (by
          rw [upd_same, tk, repF_snoc, List.nil_append, if_pos hin, nms_app]
          rfl) (by rw [upd_ne (Ne.symm nfs)]; exact hs) (by rw [upd_ne pf]; exact hp)
        exact rr
      · rw [if_neg (by rw [hz]; exact Bool.false_ne_true)]
        have hin : ¬ m.n ∈ (ms.take i).map (·.n) := of_decide_eq_false ((hS m.n).symm.trans hz)
        refine ⟨_, rfl, ⟨sn, S, n, rfl, hs⟩, _, rfl, p, C, dx, fs, _, rfl, hp, c1, c2, c4, sn, .inr m.n, S, n, rfl, rfl, hs, scan1, ?_⟩
        have rr := rest G' sm (by rw [tk, repF_snoc, List.nil_append, if_neg hin, List.append_nil]; exact hf) hs hp
        exact rr
    · rintro σ G ⟨x3, S, n, rfl, sm, hf, hs, hS, hn'⟩
      refine ⟨_, rfl, q G _ ⟨fa, rfl, hfa, ?_, sm⟩⟩
      rw [hf, List.take_of_length_le (by rw [ha.len]; exact Nat.le_refl _)]
end
end V5

set_option maxHeartbeats 2000000
/-! The files that are brought in. -/
namespace V5
open PySem PySem.Spec PyProof.Rows L2 K2

/-- the trees by name -/
def DT (K : PySem.W.Frag) (H : Hp) (D : Addr) (fs : List Fi) : Prop := ∃ kvs, H D = some (.dK kvs) ∧ (∀ f ∈ fs, ∃ v, valV kvs (.inr f.f) = some v ∧ RFi K H v f) ∧ (∀ n, (∀ f ∈ fs, f.f ≠ n) → valV kvs (.inr n) = none)
theorem DT.same {K : PySem.W.Frag} {H H' : Hp} (s : Same H H') {D : Addr} {fs : List Fi} : DT K H D fs → DT K H' D fs := fun ⟨kvs, h, a, b⟩ => ⟨kvs, s _ _ h, fun f hf => let ⟨v, e, r⟩ := a f hf; ⟨v, e, r.st (St.same s)⟩, b⟩
def has (fs : List Fi) (n : Str) : Bool := fs.any fun f => decide (f.f = n)
theorem DT.has {K : PySem.W.Frag} {H : Hp} {D : Addr} {fs : List Fi} (h : DT K H D fs) : ∃ kvs, H D = some (.dK kvs) ∧ ∀ n, (valV kvs (.inr n)).isSome = has fs n := by
  obtain ⟨kvs, e, a, b⟩ := h
  refine ⟨kvs, e, fun n => ?_⟩
  unfold V5.has
  cases z : fs.any fun f => decide (f.f = n) with
  | true =>
    obtain ⟨f, hf, ef⟩ := List.any_eq_true.mp z
    have ef := of_decide_eq_true ef
    subst ef
    obtain ⟨v, ev, _⟩ := a f hf
    rw [ev]
    rfl
  | false =>
    rw [b n fun f hf ef => by
      have := List.any_eq_false.mp z f hf
      exact this (decide_eq_true ef)]
    rfl
def impB (fs : List Fi) (t : Str) (m : Mk) : Bool := decide (m.n = t) || !has fs m.n
def impF (fs : List Fi) (t : Fi) : List Nat := (t.im.filter (impB fs t.f)).map (·.i) ++ repF [] t.im
theorem RFi.tree {K : PySem.W.Frag} {H : Hp} {v : V} {t : Fi} (h : RFi K H v t) : ∃ p dx li ld ivs dvs, v = .ref p ∧ H p = some (.ins (cFileTree K) dx (fTree (.str t.f) (.ref li) (.ref ld) .non)) ∧
  H li = some (.lst ivs) ∧ A2 (RMk K H) ivs t.im ∧ H ld = some (.lst dvs) ∧ A2 (RDe K H t.f) dvs t.ds := h
theorem RMk.ni {K : PySem.W.Frag} {mg : Str → Option Value} (E : Env K mg) {H : Hp} {v : V} {m : Mk} (h : RMk K H v m) : RNI K H v m := by
  obtain ⟨p, dx, e, h⟩ := h
  exact ⟨p, _, dx, _, e, h, E.C_Mark.c, E.n_Mark_name, E.n_Mark_index, rfl, rfl⟩
def spImp (K : PySem.W.Frag) : Sp := fun vs H Q _ => ∃ (D : Addr) (tv : V) (fs : List Fi) (t : Fi), vs = [.ref D, tv] ∧ DT K H D fs ∧ RFi K H tv t ∧ t.im.length ≤ 1000 ∧ ∀ H' v, Out H H' v (impF fs t) → Q v H'
section
variable {P : Program} {w : World} {K : PySem.W.Frag} {mg : Str → Option Value} {base : Heap}
theorem ok_import_faults (E : Env K mg) : FnOk P w K mg base CX0 2 (f_import_faults K) (fd_import_faults K) ["trees", "tree"] (spImp K) := by
  refine E.F_import_faults.ok sc_import_faults (fun vs H Q E h => ?_) (fun cdv A outer s H vs Q E1 hr h => ?_)
  · obtain ⟨D, tv, fs, t, rfl, _⟩ := h
    rfl
  · obtain ⟨D, tv, fs, t, rfl, hD, ht, hn, q⟩ := h
    have nd := sc_import_faults.nd
    have GR : FnOk P w K mg base CX0 1 (f_repeated K) (fd_repeated K) ["marks"] (spRep K) := ok_repeated E
    refine ⟨_, pss_cons (ps_setLc (i := 2) (own := [("mark", 3)]) (g := gName 3) rfl nd rfl rfl (sw_true rfl rfl rfl (by decide +kernel)) (pi_list (pe_fld (pv 1) rfl))
          (blkOk_by (N := ["trees", "tree", "faults", "mark"]) (sc := defScope s_import_faults) (by decide +kernel)) (fun _ _ _ _ _ => pg_name (i := 3) nd rfl (Or.inl rfl))
          (fun _ _ _ _ _ => pts_one (PW.pt (pw_or (pt_cmpR op_eq (show PE _ _ (tFld K (tVar 3) "name") from pe_fld (pv 3) rfl) (show PE _ _ (tFld K (tVar 1) "name") from pe_fld (pv 1) rfl) (nomark _))
            (pw_or1 (pt_cmp (pc_dnotin (hu_of hr) (show PE _ _ (tFld K (tVar 3) "name") from pe_fld (pv 3) rfl) (pv 0)) rfl)))))
          (fun _ _ _ _ _ => show PE _ _ (tFld K (tVar 3) "index") from pe_fld (pv 3) rfl))
      <| pss_one (ps_ret (pe_op op_cat (pv 2) (pe_call GR hr (by rfl) E.D_repeated.g E.D_repeated.k E.D_repeated.b .nil pass0 (pa_cons (pe_fld (pv 1) rfl) pa_nil)))), ?_⟩
    obtain ⟨p, dx, li, ld, ivs, dvs, rfl, hp, hli, ri, hld, rd⟩ := ht.tree
    obtain ⟨kvs, hd, hv⟩ := hD.has
    have Cm := E.C_Mark.c
    have Ct := E.C_FileTree.c
    refine ⟨_, rfl, p, _, dx, _, _, rfl, hp, Ct, E.n_FileTree_imports, rfl, li, rfl, ⟨_, SqL.of hli⟩, fun F hF => ?_⟩
    refine lc_it (walk_list (K := K) (a := li) (xs := ivs)) (fun i G => G = upd H F (.lst (nms (((t.im.take i).filter (impB fs t.f)).map (·.i))))) rfl (fun i G _ e => by rw [e]; exact SqL.of (same_new hF _ _ hli)) ?_ ?_
    · rintro i v G G' hi rfl ⟨rfl, hiv⟩
      have sm : Same H (upd H F (.lst (nms (((t.im.take i).filter (impB fs t.f)).map (·.i))))) := same_new hF
      obtain ⟨m, hm, mp, md, rfl, hmm⟩ := ri.getL hiv
      have tk : t.im.take (i + 1) = t.im.take i ++ [m] := by rw [List.take_add_one, hm]; rfl
      have lenF : (nms (((t.im.take i).filter (impB fs t.f)).map (·.i))).length < sizeLine := by
        rw [nms_len, List.length_map]
        refine small1000 (Nat.le_trans (List.length_filter_le _ _) ?_)
        rw [List.length_take]
        omega
      refine ⟨rfl, _, rfl, mp, _, md, _, _, rfl, sm _ _ hmm, Cm, E.n_Mark_name, rfl, _, rfl, p, _, dx, _, _, rfl, sm _ _ hp, Ct, E.n_FileTree_name, rfl, rfl, _, rfl, ?_⟩
      rw [dec_str]
      have stepT : impB fs t.f m = true → ∃ x, [some (V.ref D), some (.ref p), none, some (.ref mp)][3]? = some (some x) ∧ ∃ a C dx fs' v, x = .ref a ∧ (upd H F (.lst (nms (((t.im.take i).filter (impB fs t.f)).map (·.i))))) a = some (.ins C dx fs') ∧ Cls K C ∧ NoAttr K C "index" ∧ fs'.lookup ("index" : Str) = some v ∧ ∃ acc, (upd H F (.lst (nms (((t.im.take i).filter (impB fs t.f)).map (·.i))))) F = some (.lst acc) ∧ acc.length < sizeLine ∧ upd (upd H F (.lst (nms (((t.im.take i).filter (impB fs t.f)).map (·.i))))) F (.lst (acc ++ [v])) = upd H F (.lst (nms (((t.im.take (i + 1)).filter (impB fs t.f)).map (·.i)))) := by
        intro hb
        refine ⟨_, rfl, mp, _, md, _, _, rfl, sm _ _ hmm, Cm, E.n_Mark_index, rfl, _, upd_same, lenF, ?_⟩
        rw [upd_upd, tk, List.filter_append, List.map_append, nms_app, show [m].filter (impB fs t.f) = [m] from by simp [List.filter_cons, hb]]
        rfl
      have stepF : impB fs t.f m = false → upd H F (.lst (nms (((t.im.take i).filter (impB fs t.f)).map (·.i)))) = upd H F (.lst (nms (((t.im.take (i + 1)).filter (impB fs t.f)).map (·.i)))) := by
        intro hb
        rw [tk, List.filter_append, show [m].filter (impB fs t.f) = [] from by simp [List.filter_cons, hb], List.append_nil]
      by_cases e1 : m.n = t.f
      · rw [decide_eq_true e1]
        exact iteT (iteT (stepT (by unfold impB; rw [decide_eq_true e1]; rfl)))
      · rw [decide_eq_false e1]
        refine iteF ⟨_, rfl, mp, _, md, _, _, rfl, sm _ _ hmm, Cm, E.n_Mark_name, rfl, _, rfl, D, _, rfl, DGet.k (k := .inr m.n) (sm _ _ hd), _, rfl, ?_⟩
        have e2 : impB fs t.f m = !(valV kvs (.inr m.n)).isSome := by
          unfold impB
          rw [decide_eq_false e1, hv]
          rfl
        cases e3 : (valV kvs (.inr m.n)).isSome with
        | true => exact iteF (stepF (by rw [e2, e3]; rfl))
        | false => exact iteT (stepT (by rw [e2, e3]; rfl))
    · rintro G rfl
      rw [List.take_of_length_le (by rw [ri.len]; exact Nat.le_refl _)]
      have sm : Same H (upd H F (.lst (nms ((t.im.filter (impB fs t.f)).map (·.i))))) := same_new hF
      have fG : (upd H F (.lst (nms ((t.im.filter (impB fs t.f)).map (·.i))))) F = some (.lst (nms ((t.im.filter (impB fs t.f)).map (·.i)))) := upd_same
      generalize upd H F (.lst (nms ((t.im.filter (impB fs t.f)).map (·.i)))) = G at sm fG ⊢
      refine ⟨_, rfl, _, rfl, p, _, dx, _, _, rfl, sm _ _ hp, Ct, E.n_FileTree_imports, rfl, li, ivs, t.im, rfl, sm _ _ hli, ri.imp fun _ _ z => (z.ni E).same sm, hn, fun G2 v ⟨l2, ev, n2, e2, sm2⟩ => ?_⟩
      subst ev
      have l1 : ((t.im.filter (impB fs t.f)).map (·.i)).length ≤ 1000 := by
        rw [List.length_map]
        exact Nat.le_trans (List.length_filter_le _ _) hn
      have l3 := repF_len t.im []
      refine ⟨F, l2, _, _, rfl, rfl, sm2 _ _ fG, e2, ?_, fun r hr0 => q _ (.ref r) ⟨r, rfl, ?_, ?_, ?_⟩⟩
      · rw [nms_len, nms_len]
        exact Nat.le_trans (by omega : _ ≤ 2000) (by decide)
      · cases z : H r with
        | none => rfl
        | some o => exact absurd (sm2 _ _ (sm _ _ z)) (by rw [hr0]; exact fun z => nomatch z)
      · rw [upd_same, impF, nms_app]
      · exact fun b o e => same_new hr0 _ _ (sm2 _ _ (sm _ _ e))
end
end V5

set_option maxHeartbeats 2000000
/-! Templates and lists of a file. -/
namespace V5
open PySem PySem.Spec PyProof.Rows L2 K2

section
variable {K : PySem.W.Frag} {mg : Str → Option Value}
theorem Env.glob (E : Env K mg) : PySem.W.specialIn K (.builtin "object.__class__") "__get__" = some (some (.builtin "getset_descriptor.__get__")) ∧ PySem.W.takesIn K (.builtin "object.__class__") = some true := by
  have h : Fx.ok K .glob = true := ex_at E.more 0 rfl
  simp only [Fx.ok, Bool.and_eq_true, decide_eq_true_eq] at h
  exact h
/-- an instance's type -/
theorem Env.ty (E : Env K mg) {x : Str} (i : Nat) (h : (fxs ++ fxs2)[i]? = some (.ins x)) (cl : Cls K (He.ga K x)) {H : Hp} {a dx : Addr} {fs : List (Str × V)} (e : H a = some (.ins (He.ga K x) dx fs)) : TyX K H (.ref a) (.ref (He.ga K x)) := by
  obtain ⟨h1, h2⟩ := and2 (ex_at E.more i h)
  exact .base (.ins e cl (of_decide_eq_true h1) E.glob.1 E.glob.2 (of_decide_eq_true h2))
theorem Env.kit (E : Env K mg) {x y : Str} {b : Bool} (i : Nat) (h : (fxs ++ fxs2)[i]? = some (.kit x y b)) : PySem.W.kitOne K (.ref (He.ga K x)) (.ref (He.ga K y)) = some b := of_decide_eq_true (ex_at E.more i h)
theorem kit_self {t : Value} : PySem.W.kitOne K t t = some true := if_pos (beq_self_eq_true _)
end
def stks (ds : List De) : List Sk := ds.filterMap fun d => match d with
  | .sk s => some s
  | .ow _ => none
def owns (ds : List De) : List Ow := ds.filterMap fun d => match d with
  | .ow o => some o
  | .sk _ => none
theorem stks_sk (a : List De) (s : Sk) : stks (a ++ [.sk s]) = stks a ++ [s] := by simp [stks]
theorem stks_ow (a : List De) (o : Ow) : stks (a ++ [.ow o]) = stks a := by simp [stks]
theorem owns_ow (a : List De) (o : Ow) : owns (a ++ [.ow o]) = owns a ++ [o] := by simp [owns]
theorem owns_sk (a : List De) (s : Sk) : owns (a ++ [.sk s]) = owns a := by simp [owns]
/-- a list of things, new -/
def New {β : Type} (R : Hp → V → β → Prop) (Ho H H' : Hp) (v : V) (ds : List β) : Prop := ∃ l xs, v = .ref l ∧ H l = none ∧ H' l = some (.lst xs) ∧ A2 (R Ho) xs ds ∧ Same H H'
def spStocks (K : PySem.W.Frag) : Sp := fun vs H Q _ => ∃ (Ho : Hp) (tv : V) (t : Fi), vs = [tv] ∧ Same Ho H ∧ RFi K Ho tv t ∧ t.ds.length ≤ 1000 ∧ ∀ H' v, New (fun H => RSk K H t.f) Ho H H' v (stks t.ds) → Q v H'
def spOwners (K : PySem.W.Frag) : Sp := fun vs H Q _ => ∃ (Ho : Hp) (tv : V) (t : Fi), vs = [tv] ∧ Same Ho H ∧ RFi K Ho tv t ∧ t.ds.length ≤ 1000 ∧ ∀ H' v, New (fun H => ROw K H t.f) Ho H H' v (owns t.ds) → Q v H'
section
variable {P : Program} {w : World} {K : PySem.W.Frag} {mg : Str → Option Value} {base : Heap}
theorem ok_stocks (E : Env K mg) : FnOk P w K mg base CX0 1 (f_FileTree_stocks K) (fd_FileTree_stocks K) ["self"] (spStocks K) := by
  refine E.F_FileTree_stocks.ok sc_FileTree_stocks (fun vs H Q E h => ?_) (fun cdv A outer s H vs Q E1 hr h => ?_)
  · obtain ⟨Ho, tv, t, rfl, _⟩ := h
    rfl
  · obtain ⟨Ho, tv, t, rfl, sm0, ht, hn, q⟩ := h
    have nd := sc_FileTree_stocks.nd
    refine ⟨_, pss_one (ps_ret (pe_lc (own := [("stock", 1)]) (g := gName 1) rfl nd (pi_list (pe_fld (pv 0) rfl)) (blkOk_by (N := ["self", "stock"]) (sc := defScope s_FileTree_stocks) (by decide +kernel))
      (fun _ _ _ _ _ => pg_name (i := 1) nd rfl (Or.inl rfl))
      (fun _ _ _ _ _ => pts_one (pt_val (pe_callB (id := "isinstance") (r := rIsi K) call_isi (by rfl) E.u_isinstance (by decide +kernel) (pa_cons (pv 1) (pa_cons (pe_glob (v := .ref (cStock K)) (by rfl) E.g_Stock rfl) pa_nil)))))
      (fun _ _ _ _ _ => pv 1))), ?_⟩
    obtain ⟨p, dx, li, ld, ivs, dvs, rfl, hp, hli, ri, hld, rd⟩ := ht.tree
    have hp := sm0 _ _ hp
    have hld := sm0 _ _ hld
    refine ⟨_, rfl, p, _, dx, _, _, rfl, hp, E.C_FileTree.c, E.n_FileTree_declared, rfl, ld, rfl, ⟨_, SqL.of hld⟩, fun D hD => ?_⟩
    refine lc_it (walk_list (K := K) (a := ld) (xs := dvs)) (fun i G => ∃ xs, G = upd H D (.lst xs) ∧ A2 (RSk K Ho t.f) xs (stks (t.ds.take i))) ⟨[], rfl, .nil⟩ (fun i G _ ⟨xs, e, _⟩ => by rw [e]; exact SqL.of (same_new hD _ _ hld)) ?_ ?_
    · rintro i v G G' hi ⟨xs, rfl, rx⟩ ⟨rfl, hiv⟩
      obtain ⟨d, hd, r⟩ := rd.getL hiv
      have tk : t.ds.take (i + 1) = t.ds.take i ++ [d] := by rw [List.take_add_one, hd]; rfl
      have il : i < t.ds.length := (List.getElem?_eq_some_iff.mp hd).1
      refine ⟨rfl, _, rfl, ?_⟩
      cases d with
      | sk s =>
        have rs : RSk K Ho t.f v s := r
        obtain ⟨sp, sd, lc, lg, cvs, rfl, hs, _⟩ := id rs
        refine ⟨_, _, _, _, true, rfl, .own _, E.ty 2 rfl E.C_Stock.c (same_new hD _ _ (sm0 _ _ hs)), kit_self, _, rfl, iteT ⟨_, rfl, xs, upd_same, ?_, ?_⟩⟩
        · refine small1000 ?_
          rw [rx.len]
          have : (stks (t.ds.take i)).length ≤ (t.ds.take i).length := List.length_filterMap_le _ _
          rw [List.length_take] at this
          omega
        · refine ⟨xs ++ [.ref sp], upd_upd .., ?_⟩
          rw [tk, stks_sk]
          exact rx.snoc rs
      | ow o =>
        have ro : ROw K Ho t.f v o := r
        obtain ⟨op, od, pv', bv, rfl, ho, _⟩ := id ro
        refine ⟨_, _, _, _, false, rfl, .own _, E.ty 1 rfl E.C_Owner.c (same_new hD _ _ (sm0 _ _ ho)), E.kit 8 rfl, _, rfl, iteF ⟨xs, rfl, ?_⟩⟩
        rw [tk, stks_ow]
        exact rx
    · rintro G ⟨xs, rfl, rx⟩
      rw [List.take_of_length_le (by rw [rd.len]; exact Nat.le_refl _)] at rx
      have sm : Same H (upd H D (.lst xs)) := same_new hD
      exact q _ (.ref D) ⟨D, xs, rfl, hD, upd_same, rx, sm⟩
theorem ok_owners (E : Env K mg) : FnOk P w K mg base CX0 1 (f_FileTree_owners K) (fd_FileTree_owners K) ["self"] (spOwners K) := by
  refine E.F_FileTree_owners.ok sc_FileTree_owners (fun vs H Q E h => ?_) (fun cdv A outer s H vs Q E1 hr h => ?_)
  · obtain ⟨Ho, tv, t, rfl, _⟩ := h
    rfl
  · obtain ⟨Ho, tv, t, rfl, sm0, ht, hn, q⟩ := h
    have nd := sc_FileTree_owners.nd
    refine ⟨_, pss_cons (ps_setLc (i := 1) (own := [("owner", 2)]) (g := gName 2) rfl nd rfl rfl (sw_true rfl rfl rfl (by decide +kernel)) (pi_list (pe_fld (pv 0) rfl)) (blkOk_by (N := ["self", "templates", "owner"]) (sc := defScope s_FileTree_owners) (by decide +kernel))
      (fun _ _ _ _ _ => pg_name (i := 2) nd rfl (Or.inl rfl))
      (fun _ _ _ _ _ => pts_one (pt_val (pe_callB (id := "isinstance") (r := rIsi K) call_isi (by rfl) E.u_isinstance (by decide +kernel) (pa_cons (pv 2) (pa_cons (pe_glob (v := .ref (cOwner K)) (by rfl) E.g_Owner rfl) pa_nil)))))
      (fun _ _ _ _ _ => pv 2))
      <| pss_one (ps_ret (pe_ifExp (pt_cmpR op_isN (pe_fld (pv 0) rfl) pe_non (nomark _)) (pv 1) pe_never)), ?_⟩
    obtain ⟨p, dx, li, ld, ivs, dvs, rfl, hp, hli, ri, hld, rd⟩ := ht.tree
    have hp := sm0 _ _ hp
    have hld := sm0 _ _ hld
    refine ⟨_, rfl, p, _, dx, _, _, rfl, hp, E.C_FileTree.c, E.n_FileTree_declared, rfl, ld, rfl, ⟨_, SqL.of hld⟩, fun D hD => ?_⟩
    refine lc_it (walk_list (K := K) (a := ld) (xs := dvs)) (fun i G => ∃ xs, G = upd H D (.lst xs) ∧ A2 (ROw K Ho t.f) xs (owns (t.ds.take i))) ⟨[], rfl, .nil⟩ (fun i G _ ⟨xs, e, _⟩ => by rw [e]; exact SqL.of (same_new hD _ _ hld)) ?_ ?_
    · rintro i v G G' hi ⟨xs, rfl, rx⟩ ⟨rfl, hiv⟩
      obtain ⟨d, hd, r⟩ := rd.getL hiv
      have tk : t.ds.take (i + 1) = t.ds.take i ++ [d] := by rw [List.take_add_one, hd]; rfl
      have il : i < t.ds.length := (List.getElem?_eq_some_iff.mp hd).1
      refine ⟨rfl, _, rfl, ?_⟩
      cases d with
      | ow o =>
        have rs : ROw K Ho t.f v o := r
        obtain ⟨op, od, pv', bv, rfl, ho, _⟩ := id rs
        refine ⟨_, _, _, _, true, rfl, .own _, E.ty 1 rfl E.C_Owner.c (same_new hD _ _ (sm0 _ _ ho)), kit_self, _, rfl, iteT ⟨_, rfl, xs, upd_same, ?_, ?_⟩⟩
        · refine small1000 ?_
          rw [rx.len]
          have : (owns (t.ds.take i)).length ≤ (t.ds.take i).length := List.length_filterMap_le _ _
          rw [List.length_take] at this
          omega
        · refine ⟨xs ++ [.ref op], upd_upd .., ?_⟩
          rw [tk, owns_ow]
          exact rx.snoc rs
      | sk s =>
        have ro : RSk K Ho t.f v s := r
        obtain ⟨sp, sd, lc, lg, cvs, rfl, hs, _⟩ := id ro
        refine ⟨_, _, _, _, false, rfl, .own _, E.ty 2 rfl E.C_Stock.c (same_new hD _ _ (sm0 _ _ hs)), E.kit 9 rfl, _, rfl, iteF ⟨xs, rfl, ?_⟩⟩
        rw [tk, owns_sk]
        exact rx
    · rintro G ⟨xs, rfl, rx⟩
      rw [List.take_of_length_le (by rw [rd.len]; exact Nat.le_refl _)] at rx
      have sm : Same H (upd H D (.lst xs)) := same_new hD
      refine ⟨_, rfl, p, _, dx, _, _, rfl, sm _ _ hp, E.C_FileTree.c, E.n_FileTree_document, rfl, rfl, _, rfl, iteT ⟨_, rfl, ?_⟩⟩
      exact q _ (.ref D) ⟨D, xs, rfl, hD, upd_same, rx, sm⟩
end
end V5

set_option maxHeartbeats 2000000
/-! A name is given a dict by a comprehension. -/
namespace V5
open PySem PySem.Spec PyProof.Rows L2 K2
section
variable {X : Cx}
theorem ps_setDc {n : Nat} {nm : Str} {np : Pos} {kx vx target src : Expr} {ts : List Expr} {sc : Scope} {mine : List (Str × Nat)} {cp sp : Pos} {ti : TI} {tg : TG} {tt : TT} {t1 t2 : TE} (calm : X.calm = true) (uniq : X.N.Nodup) (at_ : X.N[n]? = some nm) (loc : X.env.scope.names.lookup nm = some .local)
    (sw : swapsWith (.DictComp kx vx [⟨target, src, ts, 0⟩] sc cp) (some (.Name nm np)) sp.line X.env = pure true) (walk : PI X target src ti) (blk : BlkOk X.N X.env.scope sc mine)
    (p1 : ∀ (s : Shared) (H : Hp) (C : Addr) (cl : List (Str × Addr)) (fp : List Addr), PG (X.blk s H sc (compEnvC sc cl C X.env) fp) target tg) (p2 : ∀ (s : Shared) (H : Hp) (C : Addr) (cl : List (Str × Addr)) (fp : List Addr), PTs (X.blk s H sc (compEnvC sc cl C X.env) fp) ts tt)
    (p3 : ∀ (s : Shared) (H : Hp) (C : Addr) (cl : List (Str × Addr)) (fp : List Addr), PE (X.blk s H sc (compEnvC sc cl C X.env) fp) kx t1)
    (p4 : ∀ (s : Shared) (H : Hp) (C : Addr) (cl : List (Str × Addr)) (fp : List Addr), PE (X.blk s H sc (compEnvC sc cl C X.env) fp) vx t2) (folded : ∀ x, foldedSetIterable src X.env x = pure x := by intro _; rfl) :
    PS X (.Assign [.Name nm np] (.DictComp kx vx [⟨target, src, ts, 0⟩] sc cp) sp) (tAsg (tDc ti tg tt t1 t2 (mine.map (·.2))) (gName n)) := by
  constructor
  intro pins s σ H D I wish
  rw [exec_Assign_Name_used _ _ _ _ sw]
  refine wpAny_bind (wpAny_standAt (wpAny_bind ?_))
  have wish2 : tDc ti tg tt t1 t2 (mine.map (·.2)) σ H (fun x H1 => gName n x σ H1 D.nx) := wish
  refine wpAny_bind (thn (dc_core (Qf := fun _ s' => SP X pins D .next s') (use := some (assign (.Name nm np) X.env)) calm uniq I walk blk p1 p2 p3 p4 folded wish2 fun made C s' m H' I' q ns free => ?_) fun _ s' ok => wpAny_pure (wpAny_pure ok))
  obtain ⟨g0, g1, g2, g3, g4, g5⟩ := free
  show wpAny _ _ (assign (.Name nm np) X.env (.ref made)) _ _ _
  refine wpAny_assign_Name (store_ok2 (v := V.ref made) I' uniq at_ (.inl loc) rfl (fun s2 I2 ⟨a, same, place⟩ => ?_) (.inr loc))
  have other : C ≠ a := by
    rcases place with e | e
    · rw [e]
      exact g1
    · intro z
      exact g4 nm a e z.symm
  exact ⟨m, ns.sameBut same other, fun h3 same3 => ⟨_, H', I2.turned (t' := s2.toks) (fun b o hb e => (same3.2 b hb).trans e) g0 g1 g3 g4 g5, q⟩⟩
theorem sw_dict {kx vx : Expr} {gs : List Comprehension} {sc : Scope} {cp np : Pos} {nm : Str} {line : Nat} {env : PySem.Env} (fn : env.scope.kind = .function) (loc : env.scope.names.lookup nm = some .local) (one : (np.line == cp.line) = true)
    (no : (sc.names.any fun (n, k) => n == nm && (k == .local || k == .cell)) = false) : swapsWith (.DictComp kx vx gs sc cp) (some (.Name nm np)) line env = pure true := by
  have k1 : env.blockKind = .function := by
    unfold PySem.Env.blockKind
    rw [fn]
    rfl
  have k2 : env.kindOf nm = some .local := loc
  unfold swapsWith
  simp only [k1, k2, no, Expr.pos, one]
  rfl
end
end V5

set_option maxHeartbeats 2000000
/-! What is brought twice. -/
namespace V5
open PySem PySem.Spec PyProof.Rows L2 K2

theorem joinS {t : TS} {R : L2.St → Hp → Prop} {D : Ends} {σ : L2.St} {H : Hp} (h : ∀ D' : Ends, (∀ σ' H', R σ' H' → D'.nx σ' H') → t D' σ H) (q : ∀ σ' H', R σ' H' → D.nx σ' H') : t D σ H := h D q
def decN (fs : List Fi) (n : Str) : List Str := match fs.find? fun f => decide (f.f = n) with
  | some f => f.ds.map (·.m.n)
  | none => []
def broF (fs : List Fi) : List Str → List Mk → List Nat
  | _, [] => []
  | k, m :: r => (if (decN fs m.n).any (fun x => decide (x ∈ k)) = true then [m.i] else []) ++ broF fs (k ++ decN fs m.n) r
theorem broF_snoc (fs : List Fi) (m : Mk) : ∀ (a : List Mk) (k : List Str), broF fs k (a ++ [m]) = broF fs k a ++ (if (decN fs m.n).any (fun x => decide (x ∈ k ++ a.flatMap fun m => decN fs m.n)) = true then [m.i] else [])
  | [], k => by simp [broF]
  | b :: r, k => by
    rw [List.cons_append]
    unfold broF
    rw [broF_snoc fs m r, List.append_assoc, List.append_assoc, List.flatMap_cons]
def Few (f : Fi) : Prop := f.im.length ≤ 20 ∧ f.ds.length ≤ 20
theorem has_find {fs : List Fi} {n : Str} (h : has fs n = true) : ∃ f ∈ fs, f.f = n ∧ decN fs n = f.ds.map (·.m.n) := by
  unfold V5.has at h
  unfold decN
  cases e : fs.find? fun f => decide (f.f = n) with
  | none =>
    obtain ⟨f, hf, ef⟩ := List.any_eq_true.mp h
    exact absurd ef (by simpa using List.find?_eq_none.mp e f hf)
  | some f => exact ⟨f, List.mem_of_find?_eq_some e, by simpa using List.find?_some e, rfl⟩
theorem RDe.ni {K : PySem.W.Frag} {mg : Str → Option Value} (E : Env K mg) {H : Hp} {f : Str} {v : V} {d : De} (h : RDe K H f v d) : RNI K H v d.m := by
  cases d with
  | ow o =>
    obtain ⟨p, dx, pv', bv, e, h, _⟩ := h
    exact ⟨p, _, dx, _, e, h, E.C_Owner.c, E.n_Owner_name, E.n_Owner_index, rfl, rfl⟩
  | sk s =>
    obtain ⟨p, dx, lc, lg, cvs, e, h, _⟩ := h
    exact ⟨p, _, dx, _, e, h, E.C_Stock.c, E.n_Stock_name, E.n_Stock_index, rfl, rfl⟩
theorem flat_few {fs : List Fi} (hf : ∀ f ∈ fs, Few f) (n : Str) : (decN fs n).length ≤ 20 := by
  unfold decN
  cases e : fs.find? fun f => decide (f.f = n) with
  | none => exact Nat.zero_le _
  | some f =>
    show (f.ds.map _).length ≤ 20
    rw [List.length_map]
    exact (hf f (List.mem_of_find?_eq_some e)).2
theorem broF_len (fs : List Fi) : ∀ (ms : List Mk) (k : List Str), (broF fs k ms).length ≤ ms.length
  | [], _ => Nat.le_refl 0
  | m :: r, k => by
    unfold broF
    have := broF_len fs r (k ++ decN fs m.n)
    rw [List.length_append, List.length_cons]
    split <;> simp <;> omega
def spBro (K : PySem.W.Frag) : Sp := fun vs H Q _ => ∃ (D : Addr) (tv : V) (fs : List Fi) (t : Fi), vs = [.ref D, tv] ∧ DT K H D fs ∧ RFi K H tv t ∧ Few t ∧ (∀ f ∈ fs, Few f) ∧ (∀ m ∈ t.im, has fs m.n = true) ∧
  ∀ H' v, Out H H' v (broF fs (t.ds.map (·.m.n)) t.im) → Q v H'
section
variable {P : Program} {w : World} {K : PySem.W.Frag} {mg : Str → Option Value} {base : Heap}
theorem ok_brought (E : Env K mg) : FnOk P w K mg base CX0 1 (f_brought_twice K) (fd_brought_twice K) ["trees", "tree"] (spBro K) := by
  refine E.F_brought_twice.ok sc_brought_twice (fun vs H Q E h => ?_) (fun cdv A outer s H vs Q E1 hr h => ?_)
  · obtain ⟨D, tv, fs, t, rfl, _⟩ := h
    rfl
  · obtain ⟨D, tv, fs, t, rfl, hD, ht, hn, hfew, him, q⟩ := h
    have nd := sc_brought_twice.nd
    refine ⟨_, pss_cons (ps_set (i := 2) nd rfl (.inl rfl) (pe_lst pa_nil))
      <| pss_cons (ps_set (i := 3) nd rfl (.inr rfl) (pe_dc (own := [("found", 4)]) (g := gName 4) (tt := tYes) rfl nd (pi_list (pe_fld (pv 1) rfl)) (blkOk_by (N := ["trees", "tree", "faults", "known", "found", "mark", "brought", "name"]) (sc := defScope s_brought_twice) (by decide +kernel))
          (fun _ _ _ _ _ => pg_name (i := 4) nd rfl (Or.inl rfl)) (fun _ _ _ _ _ => pts_nil) (fun _ _ _ _ _ => show PE _ _ (tFld K (tVar 4) "name") from pe_fld (pv 4) rfl) (fun _ _ _ _ _ => pe_bl)))
      <| pss_cons (ps_for PassesOwn.never rfl (pi_list (pe_fld (pv 1) rfl)) (pg_name (i := 5) nd rfl (.inl rfl))
          (pss_cons (ps_setLc (i := 6) (own := [("found", 4)]) (g := gName 4) (tt := tYes) rfl nd rfl rfl (sw_true rfl rfl rfl (by decide +kernel)) (pi_list (pe_fld (pe_dget (hu_of hr) (pv 0) (pe_fld (pv 5) rfl) (fun _ _ => rfl)) rfl))
              (blkOk_by (N := ["trees", "tree", "faults", "known", "found", "mark", "brought", "name"]) (sc := defScope s_brought_twice) (by decide +kernel)) (fun _ _ _ _ _ => pg_name (i := 4) nd rfl (Or.inl rfl)) (fun _ _ _ _ _ => pts_nil) (fun _ _ _ _ _ => show PE _ _ (tFld K (tVar 4) "name") from pe_fld (pv 4) rfl))
            <| pss_cons (ps_if (pt_val (pe_callB (cr_any rfl) (by rfl) E.u_any (by decide +kernel) (pa_cons (pe_lc (own := [("name", 7)]) (g := gName 7) (tt := tYes) rfl nd (pi_list (pv 6)) (blkOk_by (N := ["trees", "tree", "faults", "known", "found", "mark", "brought", "name"]) (sc := defScope s_brought_twice) (by decide +kernel))
                (fun _ _ _ _ _ => pg_name (i := 7) nd rfl (Or.inl rfl)) (fun _ _ _ _ _ => pts_nil) (fun _ _ _ _ _ => pe_cmp (pc_din (hu_of hr) (pv 7) (pv 3)) rfl)) pa_nil)))
              (pss_one (ps_expr (pe_bm PySem.F.plainAttrs_list PySem.F.slot_list_append PySem.F.type_list_append mt_append (pv 2) (pa_cons (pe_fld (pv 5) rfl) pa_nil)))) pss_nil)
            <| pss_one (ps_for PassesOwn.never rfl (pi_list (pv 6)) (pg_name (i := 7) nd rfl (.inl rfl)) (pss_one (ps_dput (hu_of hr) (pv 3) (pv 7) pe_bl rfl)))))
      <| pss_one (ps_ret (pv 2)), ?_⟩
    obtain ⟨p, dx, li, ld, ivs, dvs, rfl, hp, hli, ri, hld, rd⟩ := ht.tree
    have Ct := E.C_FileTree.c
    refine ⟨by decide, fun fa hfa => ?_⟩
    have sm1 : Same H (upd H fa (.lst [])) := same_new hfa
    have f1 : (upd H fa (.lst [])) fa = some (.lst []) := upd_same
    generalize upd H fa (.lst []) = H1 at sm1 f1 ⊢
    refine ⟨_, rfl, p, _, dx, _, _, rfl, sm1 _ _ hp, Ct, E.n_FileTree_declared, rfl, ld, rfl, ⟨_, SqL.of (sm1 _ _ hld)⟩, fun kd hkd => ?_⟩
    have kdN : H kd = none := by
      cases z : H kd with
      | none => rfl
      | some o => exact absurd (sm1 _ _ z) (by rw [hkd]; exact fun z => nomatch z)
    have nfk : fa ≠ kd := ne_of_none f1 hkd
    refine dict_it (walk_list (K := K) (a := ld) (xs := dvs)) (fun i G => ∃ kk, G = upd H1 kd (.dK kk) ∧ (∀ x, (valV kk (.inr x)).isSome = decide (x ∈ (t.ds.take i).map (·.m.n))) ∧ kk.length ≤ i) ⟨[], rfl, fun x => by simp [valV_nil], Nat.le_refl _⟩
      (fun i G _ ⟨kk, e, _⟩ => by rw [e]; exact SqL.of (same_new hkd _ _ (sm1 _ _ hld))) ?_ ?_
    · rintro i v G G' hi ⟨kk, rfl, hk, hl⟩ ⟨rfl, hiv⟩
      obtain ⟨d, hd, r⟩ := rd.getL hiv
      obtain ⟨op, C, od, ofs, rfl, ho, c1, c2, c3, c4, c5⟩ := r.ni E
      have tk : t.ds.take (i + 1) = t.ds.take i ++ [d] := by rw [List.take_add_one, hd]; rfl
      have il : i < t.ds.length := (List.getElem?_eq_some_iff.mp hd).1
      have hn2 := hn.2
      refine ⟨rfl, _, rfl, op, _, od, _, _, rfl, same_new hkd _ _ (sm1 _ _ ho), c1, c2, c4, kk, .inr d.m.n, rfl, upd_same, small1000 (by omega), putK kk (.inr d.m.n) (.bl true), upd_upd .., fun x => ?_, ?_⟩
      · rw [valV_put, tk, List.map_append]
        by_cases e : x = d.m.n
        · subst e
          simp
        · rw [if_neg (fun z => e (Sum.inr.inj z)), hk x]
          simp [e]
      · have := length_putK kk (Sum.inr d.m.n : Key) (.bl true)
        omega
    · rintro G ⟨kk, rfl, hk, hl⟩
      rw [List.take_of_length_le (by rw [rd.len]; exact Nat.le_refl _)] at hk
      have sm2 : Same H (upd H1 kd (.dK kk)) := fun b o e => same_new hkd _ _ (sm1 _ _ e)
      have f2 : (upd H1 kd (.dK kk)) fa = some (.lst []) := by rw [upd_ne nfk]; exact f1
      have d2 : (upd H1 kd (.dK kk)) kd = some (.dK kk) := upd_same
      generalize upd H1 kd (.dK kk) = H2 at sm2 f2 d2 ⊢
      have dl : kk.length ≤ 20 := Nat.le_trans hl (by rw [rd.len]; exact hn.2)
      refine ⟨_, rfl, p, _, dx, _, _, rfl, sm2 _ _ hp, Ct, E.n_FileTree_imports, rfl, li, rfl, ⟨_, SqL.of (sm2 _ _ hli)⟩, ?_⟩
      refine for_it (walk_list (K := K) (a := li) (xs := ivs)) (fun i σ G => ∃ (kk : List (Key × V)) (x4 x5 x6 x7 : Option V), σ = [some (.ref D), some (.ref p), some (.ref fa), some (.ref kd), x4, x5, x6, x7] ∧ Same H G ∧ G fa = some (.lst (nms (broF fs (t.ds.map (·.m.n)) (t.im.take i)))) ∧ G kd = some (.dK kk) ∧
        (∀ x, (valV kk (.inr x)).isSome = decide (x ∈ t.ds.map (·.m.n) ++ (t.im.take i).flatMap fun m => decN fs m.n)) ∧ kk.length ≤ 20 + 20 * i) ⟨kk, none, none, none, none, rfl, sm2, by rw [List.take_zero]; exact f2, d2, fun x => by rw [hk x, List.take_zero]; simp, by omega⟩
        (fun i σ G _ ⟨_, _, _, _, _, _, sm, _⟩ => SqL.of (sm _ _ hli)) ?_ ?_
      · rintro i v σ G G' hi ⟨kk, x4, x5, x6, x7, rfl, sm, hf, hkd2, hk2, hl2⟩ ⟨rfl, hiv⟩
        obtain ⟨m, hm, mp, md, rfl, hmm⟩ := ri.getL hiv
        have tk : t.im.take (i + 1) = t.im.take i ++ [m] := by rw [List.take_add_one, hm]; rfl
        have il : i < t.im.length := (List.getElem?_eq_some_iff.mp hm).1
        have il20 : i < 20 := Nat.lt_of_lt_of_le il hn.1
        obtain ⟨f, hfm, efn, ef⟩ := has_find (him m (List.mem_of_getElem? hm))
        obtain ⟨kvs, hDk, hv1, _⟩ := id hD
        obtain ⟨fv, hfv, rfv⟩ := hv1 f hfm
        rw [efn] at hfv
        obtain ⟨p2, dx2, li2, ld2, ivs2, dvs2, rfl, hp2, hli2, ri2, hld2, rd2⟩ := rfv.tree
        have few2 := (hfew f hfm).2
        refine ⟨_, rfl, _, rfl, mp, _, md, _, _, rfl, sm _ _ hmm, E.C_Mark.c, E.n_Mark_name, rfl, D, _, rfl, .inl ⟨kvs, .inr m.n, .inl (sm _ _ hDk), rfl, hfv.symm⟩, ?_⟩
        refine ⟨p2, _, dx2, _, _, rfl, sm _ _ hp2, Ct, E.n_FileTree_declared, rfl, ld2, rfl, ⟨_, SqL.of (sm _ _ hld2)⟩, fun B hB => ?_⟩
        have BN : H B = none := by
          cases z : H B with
          | none => rfl
          | some o => exact absurd (sm _ _ z) (by rw [hB]; exact fun z => nomatch z)
        have nBf : fa ≠ B := ne_of_none hf hB
        have nBk : kd ≠ B := ne_of_none hkd2 hB
        generalize hns : f.ds.map (·.m.n) = ns at ef
        have nsl : ns.length ≤ 20 := by
          rw [← hns, List.length_map]
          exact few2
        refine lc_it (walk_list (K := K) (a := ld2) (xs := dvs2)) (fun j G2 => G2 = upd G' B (.lst ((ns.take j).map V.str))) rfl (fun j G2 _ e => by rw [e]; exact SqL.of (same_new hB _ _ (sm _ _ hld2))) ?_ ?_
        · rintro j v2 G2 G3 hj rfl ⟨rfl, hjv⟩
          obtain ⟨d, hd, r⟩ := rd2.getL hjv
          obtain ⟨op, C, od, ofs, rfl, ho, c1, c2, c3, c4, c5⟩ := r.ni E
          have hnj : ns[j]? = some d.m.n := by rw [← hns, List.getElem?_map, hd]; rfl
          refine ⟨rfl, _, rfl, op, _, od, _, _, rfl, same_new hB _ _ (sm _ _ ho), c1, c2, c4, _, upd_same, ?_, ?_⟩
          · rw [List.length_map, List.length_take]
            exact small1000 (by omega)
          · rw [upd_upd, List.take_add_one, hnj, List.map_append]
            rfl
        · rintro G2 rfl
          have dl2 : dvs2.length = ns.length := by rw [rd2.len, ← hns, List.length_map]
          rw [List.take_of_length_le (by omega)]
          have smB : Same G' (upd G' B (.lst (ns.map V.str))) := same_new hB
          have sm3 : Same H (upd G' B (.lst (ns.map V.str))) := fun b o e => smB _ _ (sm _ _ e)
          have f3 := smB _ _ hf
          have k3 := smB _ _ hkd2
          have b3 : (upd G' B (.lst (ns.map V.str))) B = some (.lst (ns.map V.str)) := upd_same
          generalize upd G' B (.lst (ns.map V.str)) = G3 at sm3 f3 k3 b3 ⊢
          have bl := broF_len fs (t.im.take i) (t.ds.map (·.m.n))
          rw [List.length_take] at bl
          dsimp only
          show tIfS _ _ _ _ _ _
          refine joinS (t := tIfS _ _ _) (R := fun σ' G5 => σ' = [some (.ref D), some (.ref p), some (.ref fa), some (.ref kd), x4, some (.ref mp), some (.ref B), x7] ∧ Same H G5 ∧ G5 fa = some (.lst (nms (broF fs (t.ds.map (·.m.n)) (t.im.take (i + 1))))) ∧ G5 kd = some (.dK kk) ∧ G5 B = some (.lst (ns.map V.str))) (fun D' m => ?_) (fun σ' G5 r => ?_)
          · refine ⟨_, rfl, B, rfl, ⟨_, SqL.of b3⟩, fun D2 hD2 => ?_⟩
            generalize hkn : (t.ds.map (·.m.n) ++ (t.im.take i).flatMap fun m => decN fs m.n) = kn at hk2
            refine lc_it (walk_list (K := K) (a := B) (xs := ns.map V.str)) (fun j G4 => G4 = upd G3 D2 (.lst (((ns.take j).map fun x => decide (x ∈ kn)).map V.bl))) rfl (fun j G4 _ e => by rw [e]; exact SqL.of (same_new hD2 _ _ b3)) ?_ ?_
            · rintro j v2 G4 G5 hj rfl ⟨rfl, hjv⟩
              rw [List.getElem?_map] at hjv
              obtain ⟨x, hx, rfl⟩ := Option.map_eq_some_iff.mp hjv
              refine ⟨rfl, _, rfl, _, rfl, kd, _, rfl, DGet.k (k := .inr x) (same_new hD2 _ _ k3), _, upd_same, ?_, ?_⟩
              · rw [List.length_map, List.length_map, List.length_take]
                exact small1000 (by omega)
              · rw [upd_upd, List.take_add_one, hx, List.map_append, List.map_append, hk2]
                rfl
            · rintro G4 rfl
              rw [List.take_of_length_le (by rw [List.length_map]; exact Nat.le_refl _)]
              have smD : Same G3 (upd G3 D2 (.lst ((ns.map fun x => decide (x ∈ kn)).map V.bl))) := same_new hD2
              have sm4 : Same H (upd G3 D2 (.lst ((ns.map fun x => decide (x ∈ kn)).map V.bl))) := fun b o e => smD _ _ (sm3 _ _ e)
              have f4 := smD _ _ f3
              have k4 := smD _ _ k3
              have b4 := smD _ _ b3
              have d4 : (upd G3 D2 (.lst ((ns.map fun x => decide (x ∈ kn)).map V.bl))) D2 = some (.lst ((ns.map fun x => decide (x ∈ kn)).map V.bl)) := upd_same
              generalize upd G3 D2 (.lst ((ns.map fun x => decide (x ∈ kn)).map V.bl)) = G4 at sm4 f4 k4 b4 d4 ⊢
              refine ⟨D2, ns.map (fun x => decide (x ∈ kn)), rfl, SqL.of d4, _, rfl, ?_⟩
              have ea : (ns.map (fun x => decide (x ∈ kn))).any id = ns.any fun x => decide (x ∈ kn) := by
                rw [List.any_map]
                rfl
              rw [ea]
              cases hz : ns.any fun x => decide (x ∈ kn) with
              | false => 
                refine iteF (m _ _ ⟨rfl, sm4, ?_, k4, b4⟩)
                rw [tk, broF_snoc, ef, hkn, if_neg (by rw [hz]; exact Bool.false_ne_true), List.append_nil]
                exact f4
              | true =>
                refine iteT ⟨_, rfl, .inl ⟨rfl, _, SqL.of f4⟩, _, rfl, mp, _, md, _, _, rfl, sm4 _ _ hmm, E.C_Mark.c, E.n_Mark_index, rfl, fa, _, _, rfl, rfl, f4, ?_, m _ _ ⟨rfl, ?_, ?_, ?_, ?_⟩⟩
                · rw [nms_len]
                  exact small1000 (by omega)
                · exact fun b o e => by rw [upd_ne (ne_of_none e hfa)]; exact sm4 _ _ e
                · rw [upd_same, tk, broF_snoc, ef, hkn, if_pos hz, nms_app]
                  rfl
                · rw [upd_ne (Ne.symm nfk)]
                  exact k4
                · rw [upd_ne (Ne.symm nBf)]
                  exact b4
          · obtain ⟨rfl, sm5, f5, k5, b5⟩ := r
            refine ⟨_, rfl, B, rfl, ⟨_, SqL.of b5⟩, ?_⟩
            refine for_it (walk_list (K := K) (a := B) (xs := ns.map V.str)) (fun j σ G => ∃ (kk : List (Key × V)) (x7 : Option V), σ = [some (.ref D), some (.ref p), some (.ref fa), some (.ref kd), x4, some (.ref mp), some (.ref B), x7] ∧ Same H G ∧ G fa = some (.lst (nms (broF fs (t.ds.map (·.m.n)) (t.im.take (i + 1))))) ∧ G kd = some (.dK kk) ∧ G B = some (.lst (ns.map V.str)) ∧
              (∀ x, (valV kk (.inr x)).isSome = decide (x ∈ (t.ds.map (·.m.n) ++ (t.im.take i).flatMap fun m => decN fs m.n) ++ ns.take j)) ∧ kk.length ≤ 20 + 20 * i + j) ⟨kk, x7, rfl, sm5, f5, k5, b5, fun x => by rw [hk2, List.take_zero, List.append_nil], by omega⟩ (fun j σ G _ ⟨_, _, _, _, _, _, b, _⟩ => SqL.of b) ?_ ?_
            · rintro j v2 σ G6 G7 hj ⟨kk3, y7, rfl, sm6, f6, k6, b6, hk6, l6⟩ ⟨rfl, hjv⟩
              rw [List.getElem?_map] at hjv
              obtain ⟨x, hx, rfl⟩ := Option.map_eq_some_iff.mp hjv
              rw [List.length_map] at hj
              refine ⟨_, rfl, _, rfl, kd, _, rfl, DPut.k (k := .inr x) k6 (small1000 (by omega)), putK kk3 (.inr x) (.bl true), _, rfl, fun b o e => by rw [upd_ne (ne_of_none e kdN)]; exact sm6 _ _ e, by rw [upd_ne nfk]; exact f6, upd_same, by rw [upd_ne (Ne.symm nBk)]; exact b6, fun y => ?_, ?_⟩
              · rw [valV_put, List.take_add_one, hx]
                by_cases e : y = x
                · subst e
                  simp
                · rw [if_neg (fun z => e (Sum.inr.inj z)), hk6 y]
                  simp [e]
              · have := length_putK kk3 (Sum.inr x : Key) (.bl true)
                omega
            · rintro σ G6 ⟨kk3, y7, rfl, sm6, f6, k6, b6, hk6, l6⟩
              rw [List.length_map] at hk6 l6
              rw [List.take_of_length_le (Nat.le_refl _)] at hk6
              refine ⟨kk3, x4, _, _, y7, rfl, sm6, f6, k6, fun y => ?_, by omega⟩
              rw [hk6, tk, List.flatMap_append, List.append_assoc]
              simp [ef]
      · rintro σ G ⟨kk, x4, x5, x6, x7, rfl, sm, hf, _⟩
        rw [List.take_of_length_le (by rw [ri.len]; exact Nat.le_refl _)] at hf
        exact ⟨_, rfl, q G _ ⟨fa, rfl, hfa, hf, sm⟩⟩
end
end V5

set_option maxHeartbeats 2000000
/-! What stands twice in plain files. -/
namespace V5
open PySem PySem.Spec PyProof.Rows L2 K2

def tTNot : TT := fun _ _ _ => False
theorem pt_never {X : Cx} {e : Expr} : PT X e tTNot := ⟨fun _ _ _ _ _ _ h => h.elim⟩
def PlainB (b : Bo) : Prop := ∃ m i n, b.es = [⟨m, .lit i n⟩]
def PlainD : De → Prop
  | .ow o => o.par = none ∧ PlainB o.b
  | .sk s => ∃ c, s.cs = [c]
theorem any2 {K : PySem.W.Frag} {t a b : Value} (h1 : PySem.W.kitOne K t a = some false) (h2 : PySem.W.kitOne K t b = some false) : PySem.W.kitAny K t [a, b] = some false := by
  unfold PySem.W.kitAny
  rw [h1]
  show PySem.W.kitAny K t [b] = some false
  unfold PySem.W.kitAny
  rw [h2]
  rfl
def spBodies (K : PySem.W.Frag) : Sp := fun vs H Q _ => ∃ (bv : V) (b : Bo), vs = [bv] ∧ RBo K H true bv b ∧ PlainB b ∧ ∀ H' l, Same H H' → H l = none → H' l = some (.lst [bv]) → Q (.ref l) H'
def spHiding (K : PySem.W.Frag) : Sp := fun vs H Q _ => ∃ (bv : V) (b : Bo), vs = [bv] ∧ RBo K H true bv b ∧ PlainB b ∧ ∀ H' l, Same H H' → H l = none → H' l = some (.lst []) → Q (.ref l) H'
section
variable {P : Program} {w : World} {K : PySem.W.Frag} {mg : Str → Option Value} {base : Heap}
theorem ok_bodies_in (E : Env K mg) : FnOk P w K mg base CX0 1 (f_bodies_in K) (fd_bodies_in K) ["body"] (spBodies K) := by
  refine E.F_bodies_in.ok sc_bodies_in (fun vs H Q E h => ?_) (fun cdv A outer s H vs Q E1 hr h => ?_)
  · obtain ⟨bv, b, rfl, _⟩ := h
    rfl
  · obtain ⟨bv, b, rfl, hb, ⟨m, li, n, hes⟩, q⟩ := h
    have nd := sc_bodies_in.nd
    refine ⟨_, pss_cons (ps_set (i := 1) nd rfl (.inl rfl) (pe_lst pa_nil))
      <| pss_cons (ps_set (i := 2) nd rfl (.inl rfl) (pe_lst (pa_cons (pv 0) pa_nil)))
      <| pss_cons (ps_while PassesOwn.never (pt_truth (pv 2) (by intro _; rfl))
          (pss_cons (ps_set (i := 0) nd rfl (.inl rfl) (pe_bm0 PySem.F.plainAttrs_list PySem.F.slot_list_pop PySem.F.type_list_pop mt_pop (pv 2)))
            <| pss_cons (ps_expr (pe_bm PySem.F.plainAttrs_list PySem.F.slot_list_append PySem.F.type_list_append mt_append (pv 1) (pa_cons (pv 0) pa_nil)))
            <| pss_one (ps_for PassesOwn.never rfl (pi_list (pe_fld (pv 0) rfl)) (pg_name (i := 3) nd rfl (.inl rfl))
                (pss_cons (ps_set (i := 4) nd rfl (.inl rfl) (pe_fld (pv 3) rfl))
                  <| pss_cons (ps_set (i := 5) nd rfl (.inl rfl) (pe_ifExp (pt_val (pe_callB call_isiT (by rfl) E.u_isinstance (by decide +kernel) (pa_cons (pv 4) (pa_cons (pe_tup (pa_cons (pe_glob (v := .ref (cRecord K)) (by rfl) E.g_Record rfl) (pa_cons (pe_glob (v := .ref (cLoop K)) (by rfl) E.g_Loop rfl) pa_nil))) pa_nil)))) pe_never (pv 4)))
                  <| pss_one (ps_if (pt_val (pe_callB call_isi (by rfl) E.u_isinstance (by decide +kernel) (pa_cons (pv 5) (pa_cons (pe_glob (v := .ref (cBody K)) (by rfl) E.g_Body rfl) pa_nil)))) (pss_one ps_never) pss_nil)))))
      <| pss_one (ps_ret (pv 1)), ?_⟩
    obtain ⟨p, dx, l, nd1, evs, rfl, hp, hl, re, hnd⟩ := hb
    rw [hes] at re
    refine ⟨by decide, fun F hF => ?_⟩
    have sm1 : Same H (upd H F (.lst [])) := same_new hF
    have f1 : (upd H F (.lst [])) F = some (.lst []) := upd_same
    generalize upd H F (.lst []) = H1 at sm1 f1 ⊢
    refine ⟨_, rfl, by show 1 ≤ sizeLine; decide, fun W hW => ?_⟩
    have WN : H W = none := by
      cases z : H W with
      | none => rfl
      | some o => exact absurd (sm1 _ _ z) (by rw [hW]; exact fun z => nomatch z)
    have nfw : F ≠ W := ne_of_none f1 hW
    have sm2 : Same H (upd H1 W (.lst [.ref p])) := fun b o e => same_new hW _ _ (sm1 _ _ e)
    have f2 : (upd H1 W (.lst [.ref p])) F = some (.lst []) := by rw [upd_ne nfw]; exact f1
    have w2 : (upd H1 W (.lst [.ref p])) W = some (.lst [.ref p]) := upd_same
    generalize upd H1 W (.lst [.ref p]) = H2 at sm2 f2 w2 ⊢
    refine ⟨fun k σ G => ∃ x3 x4 x5 : Option V, σ = [some (.ref p), some (.ref F), some (.ref W), x3, x4, x5] ∧ Same H G ∧ ((k = 1 ∧ G W = some (.lst [.ref p]) ∧ G F = some (.lst [])) ∨ (k = 0 ∧ G W = some (.lst []) ∧ G F = some (.lst [.ref p]))), ⟨1, none, none, none, rfl, sm2, .inl ⟨rfl, w2, f2⟩⟩, ?_⟩
    rintro k σ G ⟨x3, x4, x5, rfl, sm, ⟨rfl, gw, gf⟩ | ⟨rfl, gw, gf⟩⟩
    · refine ⟨_, rfl, true, .inl ⟨_, SqL.of gw, rfl⟩, ?_⟩
      refine ⟨fun σ' G => ∃ k', k' < 1 ∧ ∃ x3 x4 x5 : Option V, σ' = [some (.ref p), some (.ref F), some (.ref W), x3, x4, x5] ∧ Same H G ∧ ((k' = 1 ∧ G W = some (.lst [.ref p]) ∧ G F = some (.lst [])) ∨ (k' = 0 ∧ G W = some (.lst []) ∧ G F = some (.lst [.ref p]))), fun _ _ w => w, ?_⟩
      refine ⟨_, rfl, .inl ⟨rfl, _, SqL.of gw⟩, W, _, .ref p, rfl, rfl, gw, rfl, ?_⟩
      have gf3 : (upd G W (.lst [])) F = some (.lst []) := by rw [upd_ne nfw]; exact gf
      refine ⟨_, rfl, .inl ⟨rfl, _, SqL.of gf3⟩, _, rfl, F, _, _, rfl, rfl, gf3, by decide, ?_⟩
      generalize hG4 : upd (upd G W _) F _ = G4
      have sm4 : Same H G4 := fun b o e => by
        rw [← hG4, upd_ne (ne_of_none e hF), upd_ne (ne_of_none e WN)]
        exact sm _ _ e
      have w4 : G4 W = some (.lst []) := by rw [← hG4, upd_ne (Ne.symm nfw), upd_same]; rfl
      have f4 : G4 F = some (.lst [.ref p]) := by rw [← hG4, upd_same]; rfl
      refine ⟨_, rfl, p, _, dx, _, _, rfl, sm4 _ _ hp, E.C_Body.c, E.n_Body_entries, rfl, l, rfl, ⟨_, SqL.of (sm4 _ _ hl)⟩, ?_⟩
      refine for_it (walk_list (K := K) (a := l) (xs := evs)) (fun i σ G => ∃ x3 x4 x5 : Option V, σ = [some (.ref p), some (.ref F), some (.ref W), x3, x4, x5] ∧ Same H G ∧ G W = some (.lst []) ∧ G F = some (.lst [.ref p])) ⟨x3, x4, x5, rfl, sm4, w4, f4⟩ (fun i σ G _ ⟨_, _, _, _, sm, _⟩ => SqL.of (sm _ _ hl)) ?_ ?_
      · rintro i v σ G5 G6 hi ⟨y3, y4, y5, rfl, sm5, w5, f5⟩ ⟨rfl, hv⟩
        obtain ⟨e, he, ep, ed, vv, rfl, hee, rv⟩ := re.getL hv
        have hmem := List.mem_of_getElem? he
        simp only [List.mem_singleton] at hmem
        subst hmem
        obtain ⟨lp, lx, rfl, hlp⟩ := rv
        refine ⟨_, rfl, ep, _, ed, _, _, rfl, sm5 _ _ hee, E.C_Entry.c, E.n_Entry_value, rfl, ?_⟩
        refine ⟨_, rfl, by show 2 ≤ sizeLine; decide, fun tp htp => ?_⟩
        have sm6 : Same G6 (upd G6 tp (.tup [.ref (cRecord K), .ref (cLoop K)])) := same_new htp
        refine ⟨_, tp, _, _, _, false, rfl, upd_same, .cons (.own _) (.cons (.own _) .nil), E.ty 3 rfl E.C_Literal.c (sm6 _ _ (sm5 _ _ hlp)), any2 (E.kit 10 rfl) (E.kit 11 rfl), _, rfl, iteF ⟨_, rfl, ?_⟩⟩
        have sm7 : Same H (upd G6 tp (.tup [.ref (cRecord K), .ref (cLoop K)])) := fun b o e => sm6 _ _ (sm5 _ _ e)
        have w7 := sm6 _ _ w5
        have f7 := sm6 _ _ f5
        generalize upd G6 tp (.tup [.ref (cRecord K), .ref (cLoop K)]) = G7 at sm7 w7 f7 ⊢
        refine ⟨_, rfl, _, _, _, _, false, rfl, .own _, E.ty 3 rfl E.C_Literal.c (sm7 _ _ hlp), E.kit 12 rfl, _, rfl, iteF ⟨_, _, _, rfl, sm7, w7, f7⟩⟩
      · rintro σ G5 ⟨y3, y4, y5, rfl, sm5, w5, f5⟩
        exact ⟨0, by decide, y3, y4, y5, rfl, sm5, .inr ⟨rfl, w5, f5⟩⟩
    · refine ⟨_, rfl, false, .inl ⟨_, SqL.of gw, rfl⟩, ?_⟩
      exact ⟨_, rfl, q G F sm hF gf⟩
theorem ok_hiding (E : Env K mg) : FnOk P w K mg base CX0 1 (f_hiding_loops K) (fd_hiding_loops K) ["body"] (spHiding K) := by
  refine E.F_hiding_loops.ok sc_hiding_loops (fun vs H Q E h => ?_) (fun cdv A outer s H vs Q E1 hr h => ?_)
  · obtain ⟨bv, b, rfl, _⟩ := h
    rfl
  · obtain ⟨bv, b, rfl, hb, ⟨m, li, n, hes⟩, q⟩ := h
    have nd := sc_hiding_loops.nd
    refine ⟨_, pss_cons (ps_setLc (i := 1) (own := [("entry", 2)]) (g := gName 2) rfl nd rfl rfl (sw_true rfl rfl rfl (by decide +kernel)) (pi_list (pe_fld (pv 0) rfl)) (blkOk_by (N := ["body", "loops", "entry", "loop"]) (sc := defScope s_hiding_loops) (by decide +kernel))
          (fun _ _ _ _ _ => pg_name (i := 2) nd rfl (Or.inl rfl))
          (fun _ _ _ _ _ => pts_one (pt_val (pe_callB (id := "isinstance") (r := rIsi K) call_isi (by rfl) E.u_isinstance (by decide +kernel) (pa_cons (show PE _ _ (tFld K (tVar 2) "value") from pe_fld (pv 2) rfl) (pa_cons (pe_glob (v := .ref (cLoop K)) (by rfl) E.g_Loop rfl) pa_nil)))))
          (fun _ _ _ _ _ => pe_never))
      <| pss_one (ps_ret (pe_lc (own := [("loop", 3)]) (g := gName 3) rfl nd (pi_list (pv 1)) (blkOk_by (N := ["body", "loops", "entry", "loop"]) (sc := defScope s_hiding_loops) (by decide +kernel))
          (fun _ _ _ _ _ => pg_name (i := 3) nd rfl (Or.inl rfl)) (fun _ _ _ _ _ => pts_one pt_never) (fun _ _ _ _ _ => pe_never))), ?_⟩
    obtain ⟨p, dx, l, nd1, evs, rfl, hp, hl, re, hnd⟩ := hb
    rw [hes] at re
    refine ⟨_, rfl, p, _, dx, _, _, rfl, hp, E.C_Body.c, E.n_Body_entries, rfl, l, rfl, ⟨_, SqL.of hl⟩, fun D hD => ?_⟩
    refine lc_it (walk_list (K := K) (a := l) (xs := evs)) (fun i G => G = upd H D (.lst [])) rfl (fun i G _ e => by rw [e]; exact SqL.of (same_new hD _ _ hl)) ?_ ?_
    · rintro i v G5 G6 hi rfl ⟨rfl, hv⟩
      obtain ⟨e, he, ep, ed, vv, rfl, hee, rv⟩ := re.getL hv
      have hmem := List.mem_of_getElem? he
      simp only [List.mem_singleton] at hmem
      subst hmem
      obtain ⟨lp, lx, rfl, hlp⟩ := rv
      refine ⟨rfl, _, rfl, ep, _, ed, _, _, rfl, same_new hD _ _ hee, E.C_Entry.c, E.n_Entry_value, rfl, ?_⟩
      exact ⟨_, _, _, _, false, rfl, .own _, E.ty 3 rfl E.C_Literal.c (same_new hD _ _ hlp), E.kit 11 rfl, _, rfl, iteF rfl⟩
    · rintro G5 rfl
      have sm1 : Same H (upd H D (.lst [])) := same_new hD
      have d1 : (upd H D (.lst [])) D = some (.lst []) := upd_same
      generalize upd H D (.lst []) = G5 at sm1 d1 ⊢
      refine ⟨_, rfl, D, rfl, ⟨_, SqL.of d1⟩, fun D2 hD2 => ?_⟩
      refine lc_it (walk_list (K := K) (a := D) (xs := [])) (fun i G => G = upd G5 D2 (.lst [])) rfl (fun i G _ e => by rw [e]; exact SqL.of (same_new hD2 _ _ d1)) (fun i v G G' hi => absurd hi (by simp)) ?_
      rintro G6 rfl
      refine q _ D2 (fun b o e => same_new hD2 _ _ (sm1 _ _ e)) ?_ upd_same
      cases z : H D2 with
      | none => rfl
      | some o => exact absurd (sm1 _ _ z) (by rw [hD2]; exact fun z => nomatch z)
end
end V5

set_option maxHeartbeats 2000000
/-! twice_faults of plain files. -/
namespace V5
open PySem PySem.Spec PyProof.Rows L2 K2

theorem RCo.ni {K : PySem.W.Frag} {mg : Str → Option Value} (E : Env K mg) {H : Hp} {v : V} {c : Co} (h : RCo K H v c) : RNI K H v c.m := by
  obtain ⟨p, dx, e, h⟩ := h
  exact ⟨p, _, dx, _, e, h, E.C_Column.c, E.n_Column_name, E.n_Column_index, rfl, rfl⟩
theorem REn.ni {K : PySem.W.Frag} {mg : Str → Option Value} (E : Env K mg) {H : Hp} {v : V} {c : En} (h : REn K H v c) : RNI K H v c.m := by
  obtain ⟨p, dx, vv, e, h, _⟩ := h
  exact ⟨p, _, dx, _, e, h, E.C_Entry.c, E.n_Entry_name, E.n_Entry_index, rfl, rfl⟩
def twF (fs : List Fi) (t : Fi) : List Nat := repF [] (t.ds.map De.m) ++ broF fs (t.ds.map (·.m.n)) t.im
def spTwice (K : PySem.W.Frag) : Sp := fun vs H Q _ => ∃ (D : Addr) (tv : V) (fs : List Fi) (t : Fi), vs = [.ref D, tv] ∧ DT K H D fs ∧ RFi K H tv t ∧ Few t ∧ (∀ f ∈ fs, Few f) ∧ (∀ m ∈ t.im, has fs m.n = true) ∧ (∀ d ∈ t.ds, PlainD d) ∧
  ∀ H' v, Out H H' v (twF fs t) → Q v H'
theorem mem_stks {ds : List De} {s : Sk} (h : s ∈ stks ds) : De.sk s ∈ ds := by
  unfold stks at h
  obtain ⟨d, hd, e⟩ := List.mem_filterMap.mp h
  cases d with
  | sk s' =>
    cases e
    exact hd
  | ow o => cases e
theorem mem_owns {ds : List De} {o : Ow} (h : o ∈ owns ds) : De.ow o ∈ ds := by
  unfold owns at h
  obtain ⟨d, hd, e⟩ := List.mem_filterMap.mp h
  cases d with
  | ow s' =>
    cases e
    exact hd
  | sk o => cases e
theorem rep_one (m : Mk) : repF [] [m] = [] := by simp [repF]
section
variable {P : Program} {w : World} {K : PySem.W.Frag} {mg : Str → Option Value} {base : Heap}
theorem ok_twice (E : Env K mg) : FnOk P w K mg base CX0 2 (f_twice_faults K) (fd_twice_faults K) ["trees", "tree"] (spTwice K) := by
  refine E.F_twice_faults.ok sc_twice_faults (fun vs H Q E h => ?_) (fun cdv A outer s H vs Q E1 hr h => ?_)
  · obtain ⟨D, tv, fs, t, rfl, _⟩ := h
    rfl
  · obtain ⟨D, tv, fs, t, rfl, hD, ht, hn, hfew, him, hpl, q⟩ := h
    have nd := sc_twice_faults.nd
    have GR : FnOk P w K mg base CX0 1 (f_repeated K) (fd_repeated K) ["marks"] (spRep K) := ok_repeated E
    have GB : FnOk P w K mg base CX0 1 (f_brought_twice K) (fd_brought_twice K) ["trees", "tree"] (spBro K) := ok_brought E
    have GS : FnOk P w K mg base CX0 1 (f_FileTree_stocks K) (fd_FileTree_stocks K) ["self"] (spStocks K) := ok_stocks E
    have GO : FnOk P w K mg base CX0 1 (f_FileTree_owners K) (fd_FileTree_owners K) ["self"] (spOwners K) := ok_owners E
    have GI : FnOk P w K mg base CX0 1 (f_bodies_in K) (fd_bodies_in K) ["body"] (spBodies K) := ok_bodies_in E
    have GH : FnOk P w K mg base CX0 1 (f_hiding_loops K) (fd_hiding_loops K) ["body"] (spHiding K) := ok_hiding E
    have Ct := E.C_FileTree.c
    refine ⟨_, pss_cons (ps_set (i := 2) nd rfl (.inl rfl) (pe_op op_cat (pe_call GR hr (by rfl) E.D_repeated.g E.D_repeated.k E.D_repeated.b .nil pass0 (pa_cons (pe_fld (pv 1) rfl) pa_nil))
          (pe_call GB hr (by rfl) E.D_brought_twice.g E.D_brought_twice.k E.D_brought_twice.b .nil pass0 (pa_cons (pv 0) <| pa_cons (pv 1) pa_nil))))
      <| pss_cons (ps_for PassesOwn.never rfl (pi_list (pe_meth0 (pv 1) Ct E.M_FileTree_stocks.m GS hr E.M_FileTree_stocks.b .nil pass0)) (pg_name (i := 3) nd rfl (.inl rfl))
          (pss_cons (ps_aug (i := 2) nd rfl (.inl rfl) (pe_call GR hr (by rfl) E.D_repeated.g E.D_repeated.k E.D_repeated.b .nil pass0 (pa_cons (pe_fld (pv 3) rfl) pa_nil)) iop_ext)
            <| pss_one (ps_for PassesOwn.never rfl (pi_list (pe_fld (pv 3) rfl)) (pg_name (i := 4) nd rfl (.inl rfl)) (pss_one ps_never))))
      <| pss_cons (ps_for PassesOwn.never rfl (pi_list (pe_meth0 (pv 1) Ct E.M_FileTree_owners.m GO hr E.M_FileTree_owners.b .nil pass0)) (pg_name (i := 5) nd rfl (.inl rfl))
          (pss_cons (ps_for PassesOwn.never rfl (pi_list (pe_call GI hr (by rfl) E.D_bodies_in.g E.D_bodies_in.k E.D_bodies_in.b .nil pass0 (pa_cons (pe_fld (pv 5) rfl) pa_nil))) (pg_name (i := 6) nd rfl (.inl rfl))
              (pss_one (ps_aug (i := 2) nd rfl (.inl rfl) (pe_call GR hr (by rfl) E.D_repeated.g E.D_repeated.k E.D_repeated.b .nil pass0 (pa_cons (pe_fld (pv 6) rfl) pa_nil)) iop_ext)))
            <| pss_one (ps_aug (i := 2) nd rfl (.inl rfl) (pe_call GH hr (by rfl) E.D_hiding_loops.g E.D_hiding_loops.k E.D_hiding_loops.b .nil pass0 (pa_cons (pe_fld (pv 5) rfl) pa_nil)) iop_ext)))
      <| pss_one (ps_ret (pv 2)), ?_⟩
    obtain ⟨p, dx, li, ld, ivs, dvs, rfl, hp, hli, ri, hld, rd⟩ := ht.tree
    have dl : t.ds.length ≤ 1000 := Nat.le_trans hn.2 (by decide)
    have fresh : ∀ {G : Hp} {b : Addr}, Same H G → G b = none → H b = none := fun {G b} sm e => by
      cases z : H b with
      | none => rfl
      | some o => exact absurd (sm _ _ z) (by rw [e]; exact fun z => nomatch z)
    refine ⟨_, rfl, p, _, dx, _, _, rfl, hp, Ct, E.n_FileTree_declared, rfl, ld, dvs, t.ds.map De.m, rfl, hld, rd.mapR fun _ _ z => z.ni E, by rw [List.length_map]; exact dl, fun H1 v1 ⟨l1, ev1, n1, e1, sm1⟩ => ?_⟩
    subst ev1
    refine ⟨_, rfl, _, rfl, D, .ref p, fs, t, rfl, hD.same sm1, ht.st (St.same sm1), hn, hfew, him, fun H2 v2 ⟨l2, ev2, n2, e2, sm2⟩ => ?_⟩
    subst ev2
    have b1 : (repF [] (t.ds.map De.m)).length ≤ 20 := Nat.le_trans (repF_len _ _) (by rw [List.length_map]; exact hn.2)
    have b2 : (broF fs (t.ds.map (·.m.n)) t.im).length ≤ 20 := Nat.le_trans (broF_len _ _ _) hn.1
    have twl : (twF fs t).length ≤ 40 := by
      unfold twF
      rw [List.length_append]
      omega
    refine ⟨l1, l2, _, _, rfl, rfl, sm2 _ _ e1, e2, by rw [nms_len, nms_len]; exact Nat.le_trans (by omega : _ ≤ 40) (by decide), fun F hF => ?_⟩
    rw [← nms_app]
    have sm12 : Same H H2 := fun b o e => sm2 _ _ (sm1 _ _ e)
    have FN : H F = none := fresh sm12 hF
    have sm3 : Same H (upd H2 F (.lst (nms (twF fs t)))) := fun b o e => same_new hF _ _ (sm12 _ _ e)
    have f3 : (upd H2 F (.lst (nms (twF fs t)))) F = some (.lst (nms (twF fs t))) := upd_same
    show tSeq _ _ _ _ (upd H2 F (.lst (nms (twF fs t))))
    generalize upd H2 F (.lst (nms (twF fs t))) = H3 at sm3 f3 ⊢
    -- xs += []
    have ext0 : ∀ {G : Hp} {l3 : Addr} {Q' : VK}, Same H G → G F = some (.lst (nms (twF fs t))) → G l3 = some (.lst []) → (∀ G', Same H G' → G' F = some (.lst (nms (twF fs t))) → (∀ b, b ≠ F → G' b = G b) → Q' (.ref F) G') → rExt2 (.ref F) (.ref l3) G Q' := by
      intro G l3 Q' sm hf hl3 k
      refine ⟨F, l3, _, [], rfl, rfl, hf, hl3, ?_, ?_⟩
      · rw [nms_len]
        exact Nat.le_trans (by show _ + 0 ≤ 40; omega) (by decide)
      · rw [List.append_nil]
        exact k _ (fun b o e => by rw [upd_ne (ne_of_none e FN)]; exact sm _ _ e) upd_same fun b n => upd_ne n
    refine ⟨_, rfl, p, dx, _, rfl, sm3 _ _ hp, rfl, H, .ref p, t, rfl, sm3, ht, dl, fun H4 v4 ⟨S, xs, ev4, n4, e4, rs, sm4⟩ => ?_⟩
    subst ev4
    have sm34 : Same H H4 := fun b o e => sm4 _ _ (sm3 _ _ e)
    have f4 := sm4 _ _ f3
    have nSF : S ≠ F := (ne_of_none f3 n4).symm
    refine ⟨S, rfl, ⟨_, SqL.of e4⟩, ?_⟩
    refine for_it (walk_list (K := K) (a := S) (xs := xs)) (fun i σ G => ∃ x3 : Option V, σ = [some (.ref D), some (.ref p), some (.ref F), x3, none, none, none] ∧ Same H G ∧ G F = some (.lst (nms (twF fs t))) ∧ G S = some (.lst xs)) ⟨none, rfl, sm34, f4, e4⟩ (fun i σ G _ ⟨_, _, _, _, s⟩ => SqL.of s) ?_ ?_
    · rintro i v σ G G' hi ⟨x3, rfl, sm, hf, hS⟩ ⟨rfl, hv⟩
      obtain ⟨sk, hs, sp, sd, lc, lg, cvs, rfl, hsp, hlc, rc, hlg⟩ := rs.getL hv
      obtain ⟨c, hc⟩ := hpl _ (mem_stks (List.mem_of_getElem? hs))
      refine ⟨_, rfl, _, rfl, sp, _, sd, _, _, rfl, sm _ _ hsp, E.C_Stock.c, E.n_Stock_columns, rfl, lc, cvs, sk.cs.map Co.m, rfl, sm _ _ hlc, rc.mapR fun _ _ z => (z.ni E).same sm, by rw [List.length_map, hc]; exact (by decide : 1 ≤ 1000), fun G1 v1 ⟨l3, ev3, n3, e3, smr⟩ => ?_⟩
      subst ev3
      rw [hc] at e3
      have e3' : G1 l3 = some (.lst []) := by rw [e3, List.map_cons, List.map_nil, rep_one]; rfl
      have smG1 : Same H G1 := fun b o e => smr _ _ (sm _ _ e)
      refine ext0 smG1 (smr _ _ hf) e3' fun G2 sm2' f2' o2' => ?_
      refine ⟨_, rfl, sp, _, sd, _, _, rfl, sm2' _ _ hsp, E.C_Stock.c, E.n_Stock_goods, rfl, lg, rfl, ⟨_, SqL.of (sm2' _ _ hlg)⟩, ?_⟩
      have S2 : G2 S = some (.lst xs) := by
        rw [o2' S nSF]
        exact smr _ _ hS
      exact for_it (walk_list (K := K) (a := lg) (xs := [])) (fun i σ G => σ = [some (.ref D), some (.ref p), some (.ref F), some (.ref sp), none, none, none] ∧ G = G2) ⟨rfl, rfl⟩ (fun i σ G _ ⟨_, e⟩ => by rw [e]; exact SqL.of (sm2' _ _ hlg)) (fun i v σ G G' hi => absurd hi (by simp)) fun σ G ⟨e1, e2⟩ => by
        subst e1 e2
        exact ⟨some (.ref sp), rfl, sm2', f2', S2⟩
    · rintro σ G ⟨x3, rfl, sm, hf, hS⟩
      refine ⟨_, rfl, p, dx, _, rfl, sm _ _ hp, rfl, H, .ref p, t, rfl, sm, ht, dl, fun H5 v5 ⟨O, ys, ev5, n5, e5, ro, sm5⟩ => ?_⟩
      subst ev5
      have sm55 : Same H H5 := fun b o e => sm5 _ _ (sm _ _ e)
      have f5 := sm5 _ _ hf
      have nOF : O ≠ F := (ne_of_none hf n5).symm
      refine ⟨O, rfl, ⟨_, SqL.of e5⟩, ?_⟩
      refine for_it (walk_list (K := K) (a := O) (xs := ys)) (fun i σ G => ∃ x5 x6 : Option V, σ = [some (.ref D), some (.ref p), some (.ref F), x3, none, x5, x6] ∧ Same H G ∧ G F = some (.lst (nms (twF fs t))) ∧ G O = some (.lst ys)) ⟨none, none, rfl, sm55, f5, e5⟩ (fun i σ G _ ⟨_, _, _, _, _, s⟩ => SqL.of s) ?_ ?_
      · rintro i v σ G G' hi ⟨x5, x6, rfl, sm', hf', hO⟩ ⟨rfl, hv⟩
        obtain ⟨ow, hs, op, od, pv', bv, rfl, hop, rp, rb⟩ := ro.getL hv
        obtain ⟨hpar, plb⟩ := hpl _ (mem_owns (List.mem_of_getElem? hs))
        rw [hpar] at rb
        have rb : RBo K H true bv ow.b := rb
        refine ⟨_, rfl, op, _, od, _, _, rfl, sm' _ _ hop, E.C_Owner.c, E.n_Owner_body, rfl, bv, ow.b, rfl, rb.st (St.same sm'), plb, fun G1 l1' sm1' n1' e1' => ?_⟩
        have smG1 : Same H G1 := fun b o e => sm1' _ _ (sm' _ _ e)
        have fG1 := sm1' _ _ hf'
        have OG1 := sm1' _ _ hO
        have nLF : l1' ≠ F := (ne_of_none hf' n1').symm
        obtain ⟨bp, bd, bl, bnd, evs, rfl, hbp, hbl, re, hbn⟩ := id rb
        obtain ⟨em, ei, en, hes⟩ := id plb
        refine ⟨l1', rfl, ⟨_, SqL.of e1'⟩, ?_⟩
        refine for_it (walk_list (K := K) (a := l1') (xs := [.ref bp])) (fun j σ G => ∃ x6 : Option V, σ = [some (.ref D), some (.ref p), some (.ref F), x3, none, some (.ref op), x6] ∧ Same H G ∧ G F = some (.lst (nms (twF fs t))) ∧ G O = some (.lst ys) ∧ G l1' = some (.lst [.ref bp])) ⟨x6, rfl, smG1, fG1, OG1, e1'⟩ (fun j σ G _ ⟨_, _, _, _, _, s⟩ => SqL.of s) ?_ ?_
        · rintro j v2 σ G2 G3 hj ⟨y6, rfl, smj, hfj, hOj, hlj⟩ ⟨rfl, hv2⟩
          have hv3 : v2 = .ref bp := by
            have := List.mem_of_getElem? hv2
            simpa using this
          subst hv3
          refine ⟨_, rfl, _, rfl, bp, _, bd, _, _, rfl, smj _ _ hbp, E.C_Body.c, E.n_Body_entries, rfl, bl, evs, ow.b.es.map En.m, rfl, smj _ _ hbl, re.mapR fun _ _ z => (z.ni E).same smj, by rw [List.length_map, hes]; exact (by decide : 1 ≤ 1000), fun G4 v4 ⟨l3, ev3, n3, e3, smr⟩ => ?_⟩
          subst ev3
          rw [hes] at e3
          have e3' : G4 l3 = some (.lst []) := by rw [e3, List.map_cons, List.map_nil, rep_one]; rfl
          have smG4 : Same H G4 := fun b o e => smr _ _ (smj _ _ e)
          refine ext0 smG4 (smr _ _ hfj) e3' fun G5 sm5' f5' o5' => ⟨_, rfl, sm5', f5', ?_, ?_⟩
          · rw [o5' O nOF]
            exact smr _ _ hOj
          · rw [o5' l1' nLF]
            exact smr _ _ hlj
        · rintro σ G2 ⟨y6, rfl, smj, hfj, hOj, hlj⟩
          refine ⟨_, rfl, _, rfl, op, _, od, _, _, rfl, smj _ _ hop, E.C_Owner.c, E.n_Owner_body, rfl, .ref bp, ow.b, rfl, rb.st (St.same smj), plb, fun G4 l3 smr n3 e3 => ?_⟩
          have smG4 : Same H G4 := fun b o e => smr _ _ (smj _ _ e)
          refine ext0 smG4 (smr _ _ hfj) e3 fun G5 sm5' f5' o5' => ⟨_, _, rfl, sm5', f5', ?_⟩
          rw [o5' O nOF]
          exact smr _ _ hOj
      · rintro σ G2 ⟨x5, x6, rfl, sm', hf', hO⟩
        exact ⟨_, rfl, q G2 _ ⟨F, rfl, FN, hf', sm'⟩⟩
end
end V5

set_option maxHeartbeats 2000000
/-! What a file knows. -/
namespace V5
open PySem PySem.Spec PyProof.Rows L2 K2

/-- the trees by name, in their order -/
def dtk (fs : List Fi) (tvs : List V) : List (Key × V) := (fs.zip tvs).map fun p => (Sum.inr p.1.f, p.2)
def DTX (K : PySem.W.Frag) (H : Hp) (D : Addr) (fs : List Fi) (tvs : List V) : Prop := H D = some (.dK (dtk fs tvs)) ∧ A2 (RFi K H) tvs fs ∧ (fs.map (·.f)).Nodup
theorem dtk_none : ∀ {fs : List Fi} {tvs : List V} {n : Str}, (∀ f ∈ fs, f.f ≠ n) → valV (dtk fs tvs) (.inr n) = none
  | [], _, _, _ => rfl
  | f :: fs, [], _, _ => rfl
  | f :: fs, v :: tvs, n, h => by
    show valV ((Sum.inr f.f, v) :: dtk fs tvs) (.inr n) = none
    rw [valV_neg (by intro e; exact h f List.mem_cons_self (Sum.inr.inj e))]
    exact dtk_none fun g hg => h g (List.mem_cons_of_mem _ hg)
theorem dtk_at {R : V → Fi → Prop} : ∀ {fs : List Fi} {tvs : List V}, A2 R tvs fs → (fs.map (·.f)).Nodup → ∀ f ∈ fs, ∃ v, valV (dtk fs tvs) (.inr f.f) = some v ∧ R v f
  | _, _, .nil, _, f, h => by cases h
  | g :: fs, v :: tvs, .cons x r, nd, f, h => by
    rw [List.map_cons, List.nodup_cons] at nd
    show ∃ w, valV ((Sum.inr g.f, v) :: dtk fs tvs) (.inr f.f) = some w ∧ R w f
    rcases List.mem_cons.mp h with rfl | h
    · exact ⟨v, valV_pos rfl, x⟩
    · rw [valV_neg (by intro e; exact nd.1 (by rw [show g.f = f.f from Sum.inr.inj e]; exact List.mem_map_of_mem h))]
      exact dtk_at r nd.2 f h
theorem DTX.dt {K : PySem.W.Frag} {H : Hp} {D : Addr} {fs : List Fi} {tvs : List V} (h : DTX K H D fs tvs) : DT K H D fs :=
  ⟨_, h.1, fun f hf => dtk_at h.2.1 h.2.2 f hf, fun n hn => dtk_none hn⟩
theorem DTX.same {K : PySem.W.Frag} {H H' : Hp} (s : Same H H') {D : Addr} {fs : List Fi} {tvs : List V} (h : DTX K H D fs tvs) : DTX K H' D fs tvs :=
  ⟨s _ _ h.1, h.2.1.imp fun _ _ z => z.st (St.same s), h.2.2⟩
theorem dtk_snoc {fs : List Fi} {tvs : List V} {f : Fi} {v : V} (e : tvs.length = fs.length) : dtk (fs ++ [f]) (tvs ++ [v]) = dtk fs tvs ++ [(.inr f.f, v)] := by
  unfold dtk
  rw [List.zip_append e.symm, List.map_append]
  rfl
theorem dtk_len (fs : List Fi) (tvs : List V) : (dtk fs tvs).length ≤ fs.length := by
  unfold dtk
  rw [List.length_map, List.length_zip]
  omega
/-- what a file knows of its own -/
def KN (K : PySem.W.Frag) (Ho H : Hp) (f : Fi) (kd : Addr) : Prop := ∃ kf, H kd = some (.dK kf) ∧ ∀ d ∈ f.ds, ∃ v, valV kf (.inr d.m.n) = some v ∧ RDe K Ho f.f v d
theorem KN.up {K : PySem.W.Frag} {Ho Ho' H H' : Hp} (so : Same Ho Ho') (s : Same H H') {f : Fi} {kd : Addr} : KN K Ho H f kd → KN K Ho' H' f kd := fun ⟨kf, h, a⟩ => ⟨kf, s _ _ h, fun d hd => let ⟨v, e, r⟩ := a d hd; ⟨v, e, r.st (St.same so)⟩⟩
def spKnown (K : PySem.W.Frag) : Sp := fun vs H Q _ => ∃ (Ho : Hp) (D : Addr) (tv : V) (fs : List Fi) (t : Fi), vs = [.ref D, tv] ∧ Same Ho H ∧ DT K H D fs ∧ RFi K Ho tv t ∧ Few t ∧ (∀ f ∈ fs, Few f) ∧ (∀ m ∈ t.im, has fs m.n = true) ∧ (t.ds.map (·.m.n)).Nodup ∧
  ∀ H' kd, Same H H' → H kd = none → KN K Ho H' t kd → Q (.ref kd) H'
section
variable {P : Program} {w : World} {K : PySem.W.Frag} {mg : Str → Option Value} {base : Heap}
theorem ok_known (E : Env K mg) : FnOk P w K mg base CX0 1 (f_known_names K) (fd_known_names K) ["trees", "tree"] (spKnown K) := by
  refine E.F_known_names.ok sc_known_names (fun vs H Q E h => ?_) (fun cdv A outer s H vs Q E1 hr h => ?_)
  · obtain ⟨Ho, D, tv, fs, t, rfl, _⟩ := h
    rfl
  · obtain ⟨Ho, D, tv, fs, t, rfl, sm0, hD, ht, hn, hfew, him, hnd, q⟩ := h
    have nd := sc_known_names.nd
    refine ⟨_, pss_cons (ps_setDc (n := 2) (mine := [("found", 3)]) (tg := gName 3) (tt := tYes) rfl nd rfl rfl (sw_dict rfl rfl rfl (by decide +kernel)) (pi_list (pe_fld (pv 1) rfl)) (blkOk_by (N := ["trees", "tree", "known", "found", "mark"]) (sc := defScope s_known_names) (by decide +kernel))
          (fun _ _ _ _ _ => pg_name (i := 3) nd rfl (Or.inl rfl)) (fun _ _ _ _ _ => pts_nil) (fun _ _ _ _ _ => show PE _ _ (tFld K (tVar 3) "name") from pe_fld (pv 3) rfl) (fun _ _ _ _ _ => pv 3))
      <| pss_cons (ps_for PassesOwn.never rfl (pi_list (pe_fld (pv 1) rfl)) (pg_name (i := 4) nd rfl (.inl rfl))
          (pss_one (ps_for PassesOwn.never rfl (pi_list (pe_fld (pe_dget (hu_of hr) (pv 0) (pe_fld (pv 4) rfl) (fun _ _ => rfl)) rfl)) (pg_name (i := 3) nd rfl (.inl rfl))
            (pss_one (ps_expr (pe_dsetd (pv 2) (pe_fld (pv 3) rfl) (pv 3) ⟨rfl, rfl, rfl, rfl⟩))))))
      <| pss_one (ps_ret (pv 2)), ?_⟩
    obtain ⟨p, dx, li, ld, ivs, dvs, rfl, hp, hli, ri, hld, rd⟩ := ht.tree
    have hp := sm0 _ _ hp
    have hli := sm0 _ _ hli
    have hld := sm0 _ _ hld
    have ri := ri.imp fun _ _ z => RMk.st (St.same sm0) z
    have Ct := E.C_FileTree.c
    refine ⟨_, rfl, p, _, dx, _, _, rfl, hp, Ct, E.n_FileTree_declared, rfl, ld, rfl, ⟨_, SqL.of hld⟩, fun kd hkd => ?_⟩
    -- what it declares
    have own : ∀ (kf : List (Key × V)) (i : Nat) (d : De) (v : V), (∀ (j : Nat) (e : De) (u : V), j < i → t.ds[j]? = some e → dvs[j]? = some u → valV kf (.inr e.m.n) = some u) → t.ds[i]? = some d → dvs[i]? = some v →
        ∀ j e u, j < i + 1 → t.ds[j]? = some e → dvs[j]? = some u → valV (putK kf (.inr d.m.n) v) (.inr e.m.n) = some u := by
      intro kf i d v hk hd hv j e u hj he hu
      rw [valV_put]
      by_cases z : j = i
      · subst z
        rw [hd] at he
        rw [hv] at hu
        cases he
        cases hu
        rw [if_pos rfl]
      · have ne : e.m.n ≠ d.m.n := by
          intro z2
          have h1 : (t.ds.map (·.m.n))[j]? = some e.m.n := by rw [List.getElem?_map, he]; rfl
          have h2 : (t.ds.map (·.m.n))[i]? = some e.m.n := by rw [List.getElem?_map, hd, z2]; rfl
          exact z (List.getElem?_inj (by rw [List.length_map]; exact (List.getElem?_eq_some_iff.mp he).1) hnd |>.mp (h1.trans h2.symm))
        rw [if_neg (fun c => ne (Sum.inr.inj c))]
        exact hk j e u (by omega) he hu
    refine dict_it (walk_list (K := K) (a := ld) (xs := dvs)) (fun i G => ∃ kf, G = upd H kd (.dK kf) ∧ kf.length ≤ i ∧ ∀ (j : Nat) (e : De) (u : V), j < i → t.ds[j]? = some e → dvs[j]? = some u → valV kf (.inr e.m.n) = some u) ⟨[], rfl, Nat.le_refl _, fun j e u hj => absurd hj (by omega)⟩
      (fun i G _ ⟨kk, e, _⟩ => by rw [e]; exact SqL.of (same_new hkd _ _ hld)) ?_ ?_
    · rintro i v G G' hi ⟨kf, rfl, hl, hk⟩ ⟨rfl, hiv⟩
      obtain ⟨d, hd, r⟩ := rd.getL hiv
      obtain ⟨op, C, od, ofs, rfl, ho, c1, c2, c3, c4, c5⟩ := r.ni E
      have ho := sm0 _ _ ho
      have il : i < t.ds.length := (List.getElem?_eq_some_iff.mp hd).1
      have hn2 := hn.2
      have lp := length_putK kf (Sum.inr d.m.n : Key) (.ref op)
      exact ⟨rfl, _, rfl, op, _, od, _, _, rfl, same_new hkd _ _ ho, c1, c2, c4, _, rfl, kf, .inr d.m.n, rfl, upd_same, small1000 (by omega), putK kf (.inr d.m.n) (.ref op), upd_upd .., by omega, own kf i d _ hk hd hiv⟩
    · rintro G ⟨kf, rfl, hl, hk⟩
      rw [rd.len] at hl hk
      have hn2 := hn.2
      have sm2 : Same H (upd H kd (.dK kf)) := same_new hkd
      have d2 : (upd H kd (.dK kf)) kd = some (.dK kf) := upd_same
      generalize upd H kd (.dK kf) = H2 at sm2 d2 ⊢
      have all0 : ∀ (j : Nat) (e : De) (u : V), t.ds[j]? = some e → dvs[j]? = some u → valV kf (.inr e.m.n) = some u := fun j e u he hu => hk j e u (List.getElem?_eq_some_iff.mp he).1 he hu
      refine ⟨_, rfl, p, _, dx, _, _, rfl, sm2 _ _ hp, Ct, E.n_FileTree_imports, rfl, li, rfl, ⟨_, SqL.of (sm2 _ _ hli)⟩, ?_⟩
      refine for_it (walk_list (K := K) (a := li) (xs := ivs)) (fun i σ G => ∃ (kf : List (Key × V)) (x3 x4 : Option V), σ = [some (.ref D), some (.ref p), some (.ref kd), x3, x4] ∧ Same H G ∧ G kd = some (.dK kf) ∧ kf.length ≤ 20 + 20 * i ∧
        ∀ (j : Nat) (e : De) (u : V), t.ds[j]? = some e → dvs[j]? = some u → valV kf (.inr e.m.n) = some u) ⟨kf, none, none, rfl, sm2, d2, by omega, all0⟩ (fun i σ G _ ⟨_, _, _, _, sm, _⟩ => SqL.of (sm _ _ hli)) ?_ ?_
      · rintro i v σ G G' hi ⟨kf, x3, x4, rfl, sm, hkd2, hl2, hk2⟩ ⟨rfl, hiv⟩
        obtain ⟨m, hm, mp, md, rfl, hmm⟩ := ri.getL hiv
        have il : i < t.im.length := (List.getElem?_eq_some_iff.mp hm).1
        have il20 : i < 20 := Nat.lt_of_lt_of_le il hn.1
        obtain ⟨f, hfm, efn, ef⟩ := has_find (him m (List.mem_of_getElem? hm))
        obtain ⟨kvs, hDk, hv1, _⟩ := id hD
        obtain ⟨fv, hfv, rfv⟩ := hv1 f hfm
        rw [efn] at hfv
        obtain ⟨p2, dx2, li2, ld2, ivs2, dvs2, rfl, hp2, hli2, ri2, hld2, rd2⟩ := rfv.tree
        have few2 := (hfew f hfm).2
        have dl2 : dvs2.length ≤ 20 := by rw [rd2.len]; exact few2
        refine ⟨_, rfl, _, rfl, mp, _, md, _, _, rfl, sm _ _ hmm, E.C_Mark.c, E.n_Mark_name, rfl, D, _, rfl, .inl ⟨kvs, .inr m.n, .inl (sm _ _ hDk), rfl, hfv.symm⟩, ?_⟩
        refine ⟨p2, _, dx2, _, _, rfl, sm _ _ hp2, Ct, E.n_FileTree_declared, rfl, ld2, rfl, ⟨_, SqL.of (sm _ _ hld2)⟩, ?_⟩
        refine for_it (walk_list (K := K) (a := ld2) (xs := dvs2)) (fun j σ G => ∃ (kf : List (Key × V)) (x3 : Option V), σ = [some (.ref D), some (.ref p), some (.ref kd), x3, some (.ref mp)] ∧ Same H G ∧ G kd = some (.dK kf) ∧ kf.length ≤ 20 + 20 * i + j ∧
          ∀ (j : Nat) (e : De) (u : V), t.ds[j]? = some e → dvs[j]? = some u → valV kf (.inr e.m.n) = some u) ⟨kf, x3, rfl, sm, hkd2, by omega, hk2⟩ (fun i σ G _ ⟨_, _, _, sm, _⟩ => SqL.of (sm _ _ hld2)) ?_ ?_
        · rintro j v2 σ G2 G3 hj ⟨kf3, y3, rfl, sm3, hk3, l3, a3⟩ ⟨rfl, hjv⟩
          obtain ⟨d, hd, r⟩ := rd2.getL hjv
          obtain ⟨op, C, od, ofs, rfl, ho, c1, c2, c3, c4, c5⟩ := r.ni E
          refine ⟨_, rfl, kd, rfl, .inl ⟨_, .inl hk3⟩, _, rfl, op, _, od, _, _, rfl, sm3 _ _ ho, c1, c2, c4, _, rfl, kf3, .inr d.m.n, hk3, rfl, small1000 (by omega), fun u eu => ⟨kf3, _, rfl, sm3, hk3, by omega, a3⟩, fun eu => ⟨putK kf3 (.inr d.m.n) (.ref op), _, rfl, fun b o e => by rw [upd_ne (ne_of_none e hkd)]; exact sm3 _ _ e, upd_same, ?_, fun j2 e u he hu => ?_⟩⟩
          · have := length_putK kf3 (Sum.inr d.m.n : Key) (.ref op)
            omega
          · rw [valV_put]
            have z := a3 j2 e u he hu
            rw [if_neg (fun c => by rw [Sum.inr.inj c] at z; rw [z] at eu; cases eu)]
            exact z
        · rintro σ G2 ⟨kf3, y3, rfl, sm3, hk3, l3, a3⟩
          exact ⟨kf3, y3, _, rfl, sm3, hk3, by omega, a3⟩
      · rintro σ G ⟨kf, x3, x4, rfl, sm, hkd2, hl2, hk2⟩
        refine ⟨_, rfl, q G kd sm hkd ⟨kf, hkd2, fun d hd => ?_⟩⟩
        obtain ⟨j, hj, ej⟩ := List.mem_iff_getElem.mp hd
        have e1 : t.ds[j]? = some d := by rw [List.getElem?_eq_getElem hj, ej]
        obtain ⟨v, hv, r⟩ := rd.get e1
        exact ⟨v, hk2 j d v e1 hv, r⟩
end
end V5

set_option maxHeartbeats 2000000
/-! The sources are made. -/
namespace V5
open PySem PySem.Spec PyProof.Rows L2 K2

abbrev fSrc (t k l : V) : List (Str × V) := [("trees", t), ("known", k), ("layers", l)]
/-- what is known, file by file -/
def KNs (K : PySem.W.Frag) (H : Hp) (KD : Addr) (fs : List Fi) : Prop := ∃ kk, H KD = some (.dK kk) ∧ ∀ f ∈ fs, ∃ kd, valV kk (.inr f.f) = some (.ref kd) ∧ KN K H H f kd
theorem KNs.same {K : PySem.W.Frag} {H H' : Hp} (s : Same H H') {KD : Addr} {fs : List Fi} : KNs K H KD fs → KNs K H' KD fs := fun ⟨kk, h, a⟩ => ⟨kk, s _ _ h, fun f hf => let ⟨v, e, r⟩ := a f hf; ⟨v, e, r.up s s⟩⟩
/-- the sources at p; their layers may change -/
def SRC (K : PySem.W.Frag) (H : Hp) (p : Addr) (fs : List Fi) (tvs : List V) : Prop := ∃ dx D KD LD, H p = some (.ins (cSources K) dx (fSrc (.ref D) (.ref KD) LD)) ∧ DTX K H D fs tvs ∧ KNs K H KD fs
theorem SRC.same {K : PySem.W.Frag} {H H' : Hp} (s : Same H H') {p : Addr} {fs : List Fi} {tvs : List V} : SRC K H p fs tvs → SRC K H' p fs tvs := fun ⟨dx, D, KD, LD, h, a, b⟩ => ⟨dx, D, KD, LD, s _ _ h, a.same s, b.same s⟩
/-- files that are well -/
structure Well (fs : List Fi) : Prop where
  nd : (fs.map (·.f)).Nodup
  few : ∀ f ∈ fs, Few f
  imp : ∀ f ∈ fs, ∀ m ∈ f.im, has fs m.n = true
  own : ∀ f ∈ fs, (f.ds.map (·.m.n)).Nodup
  plain : ∀ f ∈ fs, ∀ d ∈ f.ds, PlainD d
  len : fs.length ≤ 20
/-- the trees' dict is newer than Ho -/
def SRT (K : PySem.W.Frag) (Ho H : Hp) (p : Addr) : Prop := ∃ dx D k l, H p = some (.ins (cSources K) dx (fSrc (.ref D) k l)) ∧ Ho D = none
theorem new_of {H G : Hp} {b : Addr} (sm : Same H G) (e : G b = none) : H b = none := by
  cases z : H b with
  | none => rfl
  | some o => exact absurd (sm _ _ z) (by rw [e]; exact fun z => nomatch z)
def spSrc (K : PySem.W.Frag) : Sp := fun vs H Q _ => ∃ (Ho : Hp) (p dx tl : Addr) (tvs : List V) (fs : List Fi), vs = [.ref p, .ref tl] ∧ H p = some (.ins (cSources K) dx []) ∧ Same Ho H ∧ Ho p = none ∧ Ho tl = some (.lst tvs) ∧ A2 (RFi K Ho) tvs fs ∧ Well fs ∧
  ∀ H', Same Ho H' → SRC K H' p fs tvs → SRT K Ho H' p → Q .non H'
section
variable {P : Program} {w : World} {K : PySem.W.Frag} {mg : Str → Option Value} {base : Heap}
theorem ok_Sources (E : Env K mg) : FnOk P w K mg base CX0 2 (f_Sources___init__ K) (fd_Sources___init__ K) ["self", "trees"] (spSrc K) := by
  refine E.F_Sources___init__.ok sc_Sources___init__ (fun vs H Q E h => ?_) (fun cdv A outer s H vs Q E1 hr h => ?_)
  · obtain ⟨Ho, p, dx, tl, tvs, fs, rfl, _⟩ := h
    rfl
  · obtain ⟨Ho, p, dx, tl, tvs, fs, rfl, hp, sm0, hpo, htl, ra, hw, q⟩ := h
    have nd := sc_Sources___init__.nd
    have GK : FnOk P w K mg base CX0 1 (f_known_names K) (fd_known_names K) ["trees", "tree"] (spKnown K) := ok_known E
    have Cs := E.C_Sources.c
    have Ct := E.C_FileTree.c
    refine ⟨_, pss_cons (ps_fld (pv 0) (pe_dc (own := [("tree", 2)]) (g := gName 2) (tt := tYes) rfl nd (pi_list (pv 1)) (blkOk_by (N := ["self", "trees", "tree"]) (sc := defScope s_Sources___init__) (by decide +kernel))
          (fun _ _ _ _ _ => pg_name (i := 2) nd rfl (Or.inl rfl)) (fun _ _ _ _ _ => pts_nil) (fun _ _ _ _ _ => show PE _ _ (tFld K (tVar 2) "name") from pe_fld (pv 2) rfl) (fun _ _ _ _ _ => pv 2)) rfl)
      <| pss_cons (ps_fld (pv 0) (pe_dc (own := [("tree", 2)]) (g := gName 2) (tt := tYes) rfl nd (pi_list (pv 1)) (blkOk_by (N := ["self", "trees", "tree"]) (sc := defScope s_Sources___init__) (by decide +kernel))
          (fun _ _ _ _ _ => pg_name (i := 2) nd rfl (Or.inl rfl)) (fun _ _ _ _ _ => pts_nil) (fun _ _ _ _ _ => show PE _ _ (tFld K (tVar 2) "name") from pe_fld (pv 2) rfl)
          (fun _ _ _ _ _ => pe_call GK hr (by rfl) E.D_known_names.g E.D_known_names.k E.D_known_names.b .nil pass0 (pa_cons (show PE _ _ (tFld K (tVar 0) "trees") from pe_fld (pv 0) rfl) <| pa_cons (pv 2) pa_nil))) rfl)
      <| pss_one (ps_fld (pv 0) pe_dnewT rfl), ?_⟩
    have hlen := hw.len
    have hl0 : ra.len = ra.len := rfl
    have lt : tvs.length = fs.length := ra.len
    refine ⟨_, rfl, tl, rfl, ⟨_, SqL.of (sm0 _ _ htl)⟩, fun D hD => ?_⟩
    have nDp : D ≠ p := (ne_of_none hp hD).symm
    have treeAt : ∀ {i : Nat} {v : V}, tvs[i]? = some v → ∃ f tp td li ld, fs[i]? = some f ∧ v = .ref tp ∧ Ho tp = some (.ins (cFileTree K) td (fTree (.str f.f) (.ref li) (.ref ld) .non)) ∧ RFi K Ho v f := by
      intro i v hv
      obtain ⟨f, hf, r⟩ := ra.getL hv
      obtain ⟨tp, td, li, ld, ivs, dvs, e, h, _⟩ := r.tree
      exact ⟨f, tp, td, li, ld, hf, e, h, r⟩
    refine dict_it (walk_list (K := K) (a := tl) (xs := tvs)) (fun i G => G = upd H D (.dK (dtk (fs.take i) (tvs.take i)))) rfl (fun i G _ e => by rw [e]; exact SqL.of (same_new hD _ _ (sm0 _ _ htl))) ?_ ?_
    · rintro i v G G' hi rfl ⟨rfl, hiv⟩
      obtain ⟨f, tp, td, li, ld, hf, rfl, htp, rf⟩ := treeAt hiv
      have tk : fs.take (i + 1) = fs.take i ++ [f] := by rw [List.take_add_one, hf]; rfl
      have tk2 : tvs.take (i + 1) = tvs.take i ++ [.ref tp] := by rw [List.take_add_one, hiv]; rfl
      have nw1 : valV (dtk (fs.take i) (tvs.take i)) (.inr f.f) = none := dtk_none fun g hg e => by
        have ndt := hw.nd
        obtain ⟨j, hj, ej⟩ := List.mem_iff_getElem.mp hg
        rw [List.length_take] at hj
        have h1 : (fs.map (·.f))[j]? = some f.f := by
          rw [List.getElem?_map, List.getElem?_eq_getElem (by omega)]
          rw [List.getElem_take] at ej
          rw [ej, ← e]
          rfl
        have h2 : (fs.map (·.f))[i]? = some f.f := by rw [List.getElem?_map, hf]; rfl
        have := List.getElem?_inj (by rw [List.length_map]; omega) ndt |>.mp (h1.trans h2.symm)
        omega
      refine ⟨rfl, _, rfl, tp, _, td, _, _, rfl, same_new hD _ _ (sm0 _ _ htp), Ct, E.n_FileTree_name, rfl, _, rfl, _, .inr f.f, rfl, upd_same, ?_, ?_⟩
      · refine small1000 (Nat.le_trans (dtk_len _ _) ?_)
        rw [List.length_take]
        omega
      · rw [upd_upd, putK_new _ nw1, tk, tk2, dtk_snoc (by rw [List.length_take, List.length_take, lt])]
    · rintro G rfl
      rw [List.take_of_length_le (by omega), List.take_of_length_le (Nat.le_refl _)]
      have smD : Same H (upd H D (.dK (dtk fs tvs))) := same_new hD
      refine ⟨_, rfl, p, _, dx, _, rfl, smD _ _ hp, Cs, E.n_Sources_trees, (by exact (by decide : 0 < 1000)), ?_⟩
      generalize hG : upd (upd H D (.dK (dtk fs tvs))) p _ = G1
      have sm1 : Same Ho G1 := fun b o e => by
        rw [← hG, upd_ne (ne_of_none e hpo)]
        exact smD _ _ (sm0 _ _ e)
      have p1 : G1 p = some (.ins (cSources K) dx [("trees", .ref D)]) := by rw [← hG, upd_same]; rfl
      have d1 : DTX K G1 D fs tvs := ⟨by rw [← hG, upd_ne nDp, upd_same], ra.imp fun _ _ z => z.st (St.same sm1), hw.nd⟩
      -- what each file knows
      refine ⟨_, rfl, tl, rfl, ⟨_, SqL.of (sm1 _ _ htl)⟩, fun KD hKD => ?_⟩
      have nKp : KD ≠ p := (ne_of_none p1 hKD).symm
      refine dict_it (walk_list (K := K) (a := tl) (xs := tvs)) (fun i G => ∃ kk, Same G1 G ∧ G KD = some (.dK kk) ∧ kk.length ≤ i ∧ ∀ (j : Nat) (f : Fi), j < i → fs[j]? = some f → ∃ kd, valV kk (.inr f.f) = some (.ref kd) ∧ kd ≠ KD ∧ KN K Ho G f kd) ⟨[], same_new hKD, upd_same, Nat.le_refl _, fun j f hj => absurd hj (by omega)⟩
        (fun i G _ ⟨kk, s, _⟩ => SqL.of (s _ _ (sm1 _ _ htl))) ?_ ?_
      · rintro i v G G' hi ⟨kk, smG, hk, hl, ha⟩ ⟨rfl, hiv⟩
        obtain ⟨f, tp, td, li, ld, hf, rfl, htp, rf⟩ := treeAt hiv
        have hfm := List.mem_of_getElem? hf
        refine ⟨rfl, _, rfl, tp, _, td, _, _, rfl, smG _ _ (sm1 _ _ htp), Ct, E.n_FileTree_name, rfl, ?_⟩
        refine ⟨_, rfl, p, _, dx, _, _, rfl, smG _ _ p1, Cs, E.n_Sources_trees, rfl, _, rfl, Ho, D, .ref tp, fs, f, rfl, (fun b o e => smG _ _ (sm1 _ _ e)), (d1.same smG).dt, rf, hw.few f hfm, hw.few, hw.imp f hfm, hw.own f hfm, fun G2 kd smk nk kn => ?_⟩
        have nkK : kd ≠ KD := (ne_of_none hk nk).symm
        have hk2 := smk _ _ hk
        refine ⟨kk, .inr f.f, rfl, hk2, small1000 (by omega), putK kk (.inr f.f) (.ref kd), fun b o e => ?_, upd_same, ?_, fun j g hj hg => ?_⟩
        · rw [upd_ne (ne_of_none e hKD)]
          exact smk _ _ (smG _ _ e)
        · have := length_putK kk (Sum.inr f.f : Key) (.ref kd)
          omega
        · have up : ∀ {g : Fi} {k2 : Addr}, KN K Ho G2 g k2 → k2 ≠ KD → KN K Ho (upd G2 KD (.dK (putK kk (.inr f.f) (.ref kd)))) g k2 := by
            rintro g k2 ⟨kf, h1, h2⟩ n2
            exact ⟨kf, by rw [upd_ne n2]; exact h1, h2⟩
          by_cases z : j = i
          · subst z
            rw [hf] at hg
            cases hg
            exact ⟨kd, by rw [valV_put, if_pos rfl], nkK, up kn nkK⟩
          · obtain ⟨k3, e3, n3, a3⟩ := ha j g (by omega) hg
            have ne : g.f ≠ f.f := by
              intro z2
              have h1 : (fs.map (·.f))[j]? = some g.f := by rw [List.getElem?_map, hg]; rfl
              have h2 : (fs.map (·.f))[i]? = some g.f := by rw [List.getElem?_map, hf, z2]; rfl
              exact z (List.getElem?_inj (by rw [List.length_map]; exact (List.getElem?_eq_some_iff.mp hg).1) hw.nd |>.mp (h1.trans h2.symm))
            exact ⟨k3, by rw [valV_put, if_neg (fun c => ne (Sum.inr.inj c))]; exact e3, n3, up (a3.up (Same.rf _) smk) n3⟩
      · rintro G ⟨kk, smG, hk, hl, ha⟩
        refine ⟨_, rfl, p, _, dx, _, rfl, smG _ _ p1, Cs, E.n_Sources_known, (by exact (by decide : 1 < 1000)), ?_⟩
        generalize hG2 : upd G p _ = G2
        have smo : Same Ho G2 := fun b o e => by
          rw [← hG2, upd_ne (ne_of_none e hpo)]
          exact smG _ _ (sm1 _ _ e)
        have p2 : G2 p = some (.ins (cSources K) dx [("trees", .ref D), ("known", .ref KD)]) := by rw [← hG2, upd_same]; rfl
        have ne2 : ∀ b, b ≠ p → G2 b = G b := fun b n => by rw [← hG2, upd_ne n]
        intro LD hLD
        refine ⟨_, rfl, p, _, dx, _, rfl, same_new hLD _ _ p2, Cs, E.n_Sources_layers, (by exact (by decide : 2 < 1000)), ?_⟩
        generalize hG3 : upd (upd G2 LD (.dT [])) p _ = G3
        have ne3 : ∀ b o, b ≠ p → G2 b = some o → G3 b = some o := fun b o n e => by
          rw [← hG3, upd_ne n]
          exact same_new hLD _ _ e
        have smo3 : Same Ho G3 := fun b o e => ne3 b o (ne_of_none e hpo) (smo _ _ e)
        have D3 : G3 D = some (.dK (dtk fs tvs)) := ne3 _ _ nDp (by rw [ne2 D nDp]; exact smG _ _ d1.1)
        refine q G3 smo3 ⟨dx, D, KD, .ref LD, by rw [← hG3, upd_same]; rfl, ⟨D3, ra.imp fun _ _ z => z.st (St.same smo3), hw.nd⟩, kk, ne3 _ _ nKp (by rw [ne2 KD nKp]; exact hk), fun f hf => ?_⟩ ⟨dx, D, _, _, by rw [← hG3, upd_same]; rfl, new_of sm0 hD⟩
        obtain ⟨j, hj, ej⟩ := List.mem_iff_getElem.mp hf
        obtain ⟨k3, e3, n3, kf, h1, h2⟩ := ha j f (by omega) (by rw [List.getElem?_eq_getElem hj, ej])
        have n3p : k3 ≠ p := by
          rintro rfl
          rw [smG _ _ p1] at h1
          cases h1
        exact ⟨k3, e3, kf, ne3 _ _ n3p (by rw [ne2 k3 n3p]; exact h1), fun d hd => let ⟨v, ev, r⟩ := h2 d hd; ⟨v, ev, r.st (St.same smo3)⟩⟩
end
end V5

set_option maxHeartbeats 2000000
/-! Names and rings of plain files. -/
namespace V5
open PySem PySem.Spec PyProof.Rows L2 K2

/-- a template without uses, at Ho -/
structure POwn (K : PySem.W.Frag) (Ho : Hp) (f : Str) (op od bp bd bl bnd ep ed lp ld : Addr) (o : Ow) (m : Mk) (li n : Nat) : Prop where
  ow : Ho op = some (.ins (cOwner K) od (fOwn (.str f) (.int o.m.i) (.str o.m.n) .non (.ref bp)))
  b : Ho bp = some (.ins (cBody K) bd (fBody (.int o.b.i) (.bl true) (.ref bl) (.ref bnd)))
  l : Ho bl = some (.lst [.ref ep])
  nd : Ho bnd = some (.dK [(.inr m.n, .ref ep)])
  e : Ho ep = some (.ins (cEntry K) ed (fEnt (.int m.i) (.str m.n) (.bl false) (.ref lp)))
  lit : Ho lp = some (.ins (cLiteral K) ld (fLit (.int li) (.int n)))
theorem POwn.same {K : PySem.W.Frag} {H H' : Hp} {f : Str} {op od bp bd bl bnd ep ed lp ld : Addr} {o : Ow} {m : Mk} {li n : Nat} (s : Same H H') (h : POwn K H f op od bp bd bl bnd ep ed lp ld o m li n) : POwn K H' f op od bp bd bl bnd ep ed lp ld o m li n :=
  ⟨s _ _ h.ow, s _ _ h.b, s _ _ h.l, s _ _ h.nd, s _ _ h.e, s _ _ h.lit⟩
theorem ROw.pown {K : PySem.W.Frag} {H : Hp} {f : Str} {v : V} {o : Ow} (h : ROw K H f v o) (pl : PlainD (.ow o)) : ∃ op od bp bd bl bnd ep ed lp ld m li n, v = .ref op ∧ POwn K H f op od bp bd bl bnd ep ed lp ld o m li n := by
  obtain ⟨hpar, m, li, n, hes⟩ := pl
  obtain ⟨op, od, pv', bv, rfl, ho, rp, rb⟩ := h
  rw [hpar] at rp rb
  have rp : pv' = .non := rp
  subst rp
  have rb : RBo K H true bv o.b := rb
  obtain ⟨bp, bd, bl, bnd, evs, rfl, hb, hl, re, hn⟩ := rb
  rw [hes] at re hn
  cases re with
  | cons x r =>
    cases r
    obtain ⟨ep, ed, vv, rfl, he, rv⟩ := x
    obtain ⟨lp, ld, rfl, hlit⟩ := rv
    exact ⟨op, od, bp, bd, bl, bnd, ep, ed, lp, ld, m, li, n, rfl, ho, hb, hl, hn, he, hlit⟩
/-- the templates of a plain file -/
def POwns (K : PySem.W.Frag) (Ho : Hp) (f : Str) (v : V) (o : Ow) : Prop := ∃ op od bp bd bl bnd ep ed lp ld m li n, v = .ref op ∧ POwn K Ho f op od bp bd bl bnd ep ed lp ld o m li n
def spTm (K : PySem.W.Frag) : Sp := fun vs H Q _ => ∃ (f : Str) (ov : V) (o : Ow), vs = [ov] ∧ POwns K H f ov o ∧ ∀ H' l, Same H H' → H l = none → H' l = some (.lst []) → Q (.ref l) H'
/-- a check of a file that finds nothing -/
def spNone (K : PySem.W.Frag) : Sp := fun vs H Q _ => ∃ (Ho : Hp) (sv tv : V) (t : Fi), vs = [sv, tv] ∧ Same Ho H ∧ RFi K Ho tv t ∧ t.ds.length ≤ 1000 ∧ (∀ d ∈ t.ds, PlainD d) ∧ ∀ H' v, Out H H' v [] → Q v H'
def spRing (K : PySem.W.Frag) : Sp := fun vs H Q _ => ∃ (f : Str) (sv ov : V) (o : Ow), vs = [sv, ov] ∧ POwns K H f ov o ∧ ∀ H', Same H H' → Q (.bl false) H'
theorem fresh_of {H G : Hp} {b : Addr} (sm : Same H G) (e : G b = none) : H b = none := by
  cases z : H b with
  | none => rfl
  | some o => exact absurd (sm _ _ z) (by rw [e]; exact fun z => nomatch z)
section
variable {P : Program} {w : World} {K : PySem.W.Frag} {mg : Str → Option Value} {base : Heap}
theorem ok_tmarks (E : Env K mg) : FnOk P w K mg base CX0 1 (f_template_marks K) (fd_template_marks K) ["owner"] (spTm K) := by
  refine E.F_template_marks.ok sc_template_marks (fun vs H Q E h => ?_) (fun cdv A outer s H vs Q E1 hr h => ?_)
  · obtain ⟨f, ov, o, rfl, _⟩ := h
    rfl
  · obtain ⟨f, ov, o, rfl, ⟨op, od, bp, bd, bl, bnd, ep, ed, lp, ld, m, li, n, rfl, p⟩, q⟩ := h
    have nd := sc_template_marks.nd
    refine ⟨_, pss_cons (ps_set (i := 1) nd rfl (.inl rfl) (pe_ifExp (pt_cmpR op_isN (pe_fld (pv 0) rfl) pe_non (nomark _)) (pe_lst pa_nil) pe_never))
      <| pss_cons (ps_for PassesOwn.never rfl (pi_list (pe_fld (pe_fld (pv 0) rfl) rfl)) (pg_name (i := 2) nd rfl (.inl rfl))
          (pss_one (ps_if (pt_val (pe_callB call_isiT (by rfl) E.u_isinstance (by decide +kernel) (pa_cons (pe_fld (pv 2) rfl) (pa_cons (pe_tup (pa_cons (pe_glob (v := .ref (cRecord K)) (by rfl) E.g_Record rfl) (pa_cons (pe_glob (v := .ref (cLoop K)) (by rfl) E.g_Loop rfl) pa_nil))) pa_nil)))) (pss_one ps_never) pss_nil)))
      <| pss_one (ps_ret (pv 1)), ?_⟩
    refine ⟨_, rfl, op, _, od, _, _, rfl, p.ow, E.C_Owner.c, E.n_Owner_parent, rfl, rfl, _, rfl, iteT ⟨by decide, fun M hM => ?_⟩⟩
    have sm1 : Same H (upd H M (.lst [])) := same_new hM
    have m1 : (upd H M (.lst [])) M = some (.lst []) := upd_same
    generalize upd H M (.lst []) = H1 at sm1 m1 ⊢
    refine ⟨_, rfl, op, _, od, _, _, rfl, sm1 _ _ p.ow, E.C_Owner.c, E.n_Owner_body, rfl, bp, _, bd, _, _, rfl, sm1 _ _ p.b, E.C_Body.c, E.n_Body_entries, rfl, bl, rfl, ⟨_, SqL.of (sm1 _ _ p.l)⟩, ?_⟩
    refine for_it (walk_list (K := K) (a := bl) (xs := [.ref ep])) (fun i σ G => ∃ x2 : Option V, σ = [some (.ref op), some (.ref M), x2] ∧ Same H G ∧ G M = some (.lst [])) ⟨none, rfl, sm1, m1⟩ (fun i σ G _ ⟨_, _, s, _⟩ => SqL.of (s _ _ p.l)) ?_ ?_
    · rintro i v σ G G' hi ⟨x2, rfl, sm, hm⟩ ⟨rfl, hv⟩
      have ev : v = .ref ep := by
        have := List.mem_of_getElem? hv
        simpa using this
      subst ev
      refine ⟨_, rfl, ep, _, ed, _, _, rfl, sm _ _ p.e, E.C_Entry.c, E.n_Entry_value, rfl, by show 2 ≤ sizeLine; decide, fun tp htp => ?_⟩
      have sm6 : Same G' (upd G' tp (.tup [.ref (cRecord K), .ref (cLoop K)])) := same_new htp
      exact ⟨_, tp, _, _, _, false, rfl, upd_same, .cons (.own _) (.cons (.own _) .nil), E.ty 3 rfl E.C_Literal.c (sm6 _ _ (sm _ _ p.lit)), any2 (E.kit 10 rfl) (E.kit 11 rfl), _, rfl, iteF ⟨_, rfl, fun b o e => sm6 _ _ (sm _ _ e), sm6 _ _ hm⟩⟩
    · rintro σ G ⟨x2, rfl, sm, hm⟩
      exact ⟨_, rfl, q G M sm hM hm⟩
theorem ok_inring (E : Env K mg) : FnOk P w K mg base CX0 2 (f_is_in_ring K) (fd_is_in_ring K) ["sources", "start"] (spRing K) := by
  refine E.F_is_in_ring.ok sc_is_in_ring (fun vs H Q E h => ?_) (fun cdv A outer s H vs Q E1 hr h => ?_)
  · obtain ⟨f, sv, ov, o, rfl, _⟩ := h
    rfl
  · obtain ⟨f, sv, ov, o, rfl, ⟨op, od, bp, bd, bl, bnd, ep, ed, lp, ld, m, li, n, rfl, p⟩, q⟩ := h
    have nd := sc_is_in_ring.nd
    have GT : FnOk P w K mg base CX0 1 (f_template_marks K) (fd_template_marks K) ["owner"] (spTm K) := ok_tmarks E
    refine ⟨_, pss_cons (ps_set (i := 2) nd rfl (.inl rfl) pe_dnewK)
      <| pss_cons (ps_set (i := 3) nd rfl (.inl rfl) (pe_lst (pa_cons (pv 1) pa_nil)))
      <| pss_cons (ps_while PassesOwn.never (pt_truth (pv 3) (by intro _; rfl))
          (pss_cons (ps_set (i := 4) nd rfl (.inl rfl) (pe_bm0 PySem.F.plainAttrs_list PySem.F.slot_list_pop PySem.F.type_list_pop mt_pop (pv 3)))
            <| pss_one (ps_for PassesOwn.never rfl (pi_list (pe_call GT hr (by rfl) E.D_template_marks.g E.D_template_marks.k E.D_template_marks.b .nil pass0 (pa_cons (pv 4) pa_nil))) (pg_name (i := 5) nd rfl (.inl rfl))
                (pss_cons ps_never <| pss_cons ps_never <| pss_one ps_never))))
      <| pss_one (ps_ret pe_bl), ?_⟩
    intro S hS
    have sm1 : Same H (upd H S (.dK [])) := same_new hS
    generalize upd H S (.dK []) = H1 at sm1 ⊢
    refine ⟨_, rfl, by show 1 ≤ sizeLine; decide, fun W hW => ?_⟩
    have WN : H W = none := fresh_of sm1 hW
    have sm2 : Same H (upd H1 W (.lst [.ref op])) := fun b o e => same_new hW _ _ (sm1 _ _ e)
    have w2 : (upd H1 W (.lst [.ref op])) W = some (.lst [.ref op]) := upd_same
    generalize upd H1 W (.lst [.ref op]) = H2 at sm2 w2 ⊢
    refine ⟨fun k σ G => ∃ x4 x5 x6 : Option V, σ = [some sv, some (.ref op), some (.ref S), some (.ref W), x4, x5, x6] ∧ Same H G ∧ ((k = 1 ∧ G W = some (.lst [.ref op])) ∨ (k = 0 ∧ G W = some (.lst []))), ⟨1, none, none, none, rfl, sm2, .inl ⟨rfl, w2⟩⟩, ?_⟩
    rintro k σ G ⟨x4, x5, x6, rfl, sm, ⟨rfl, gw⟩ | ⟨rfl, gw⟩⟩
    · refine ⟨_, rfl, true, .inl ⟨_, SqL.of gw, rfl⟩, ?_⟩
      refine ⟨fun σ' G => ∃ k', k' < 1 ∧ ∃ x4 x5 x6 : Option V, σ' = [some sv, some (.ref op), some (.ref S), some (.ref W), x4, x5, x6] ∧ Same H G ∧ ((k' = 1 ∧ G W = some (.lst [.ref op])) ∨ (k' = 0 ∧ G W = some (.lst []))), fun _ _ w => w, ?_⟩
      refine ⟨_, rfl, .inl ⟨rfl, _, SqL.of gw⟩, W, _, .ref op, rfl, rfl, gw, rfl, ?_⟩
      generalize hG4 : upd G W _ = G4
      have sm4 : Same H G4 := fun b o e => by
        rw [← hG4, upd_ne (ne_of_none e WN)]
        exact sm _ _ e
      have w4 : G4 W = some (.lst []) := by rw [← hG4, upd_same]; rfl
      refine ⟨_, rfl, f, .ref op, o, rfl, ⟨op, od, bp, bd, bl, bnd, ep, ed, lp, ld, m, li, n, rfl, p.same sm4⟩, fun G5 M sm5 nM hM => ?_⟩
      have sm45 : Same H G5 := fun b o e => sm5 _ _ (sm4 _ _ e)
      refine ⟨M, rfl, ⟨_, SqL.of hM⟩, ?_⟩
      refine for_it (walk_list (K := K) (a := M) (xs := [])) (fun i σ G => G = G5 ∧ σ = [some sv, some (.ref op), some (.ref S), some (.ref W), some (.ref op), x5, x6]) ⟨rfl, rfl⟩ (fun i σ G _ ⟨e, _⟩ => by rw [e]; exact SqL.of hM) (fun i v σ G G' hi => absurd hi (by simp)) ?_
      rintro σ G ⟨rfl, rfl⟩
      exact ⟨0, by decide, _, x5, x6, rfl, sm45, .inr ⟨rfl, sm5 _ _ w4⟩⟩
    · refine ⟨_, rfl, false, .inl ⟨_, SqL.of gw, rfl⟩, ?_⟩
      exact q G sm
theorem ok_names (E : Env K mg) : FnOk P w K mg base CX0 2 (f_name_faults K) (fd_name_faults K) ["sources", "tree"] (spNone K) := by
  refine E.F_name_faults.ok sc_name_faults (fun vs H Q E h => ?_) (fun cdv A outer s H vs Q E1 hr h => ?_)
  · obtain ⟨Ho, sv, tv, t, rfl, _⟩ := h
    rfl
  · obtain ⟨Ho, sv, tv, t, rfl, sm0, ht, dl, hpl, q⟩ := h
    have nd := sc_name_faults.nd
    have GT : FnOk P w K mg base CX0 1 (f_template_marks K) (fd_template_marks K) ["owner"] (spTm K) := ok_tmarks E
    have GO : FnOk P w K mg base CX0 1 (f_FileTree_owners K) (fd_FileTree_owners K) ["self"] (spOwners K) := ok_owners E
    have Ct := E.C_FileTree.c
    refine ⟨_, pss_cons (ps_set (i := 2) nd rfl (.inl rfl) (pe_lst pa_nil))
      <| pss_cons (ps_for PassesOwn.never rfl (pi_list (pe_meth0 (pv 1) Ct E.M_FileTree_owners.m GO hr E.M_FileTree_owners.b .nil pass0)) (pg_name (i := 3) nd rfl (.inl rfl))
          (pss_cons (ps_for PassesOwn.never rfl (pi_list (pe_call GT hr (by rfl) E.D_template_marks.g E.D_template_marks.k E.D_template_marks.b .nil pass0 (pa_cons (pv 3) pa_nil))) (pg_name (i := 4) nd rfl (.inl rfl)) (pss_one ps_never))
            <| pss_one (ps_for PassesOwn.never rfl (pi_list (pe_fld (pe_fld (pv 3) rfl) rfl)) (pg_name (i := 5) nd rfl (.inl rfl))
                (pss_one (ps_if (PW.pt (pw_and (pt_val (pe_callB call_isi (by rfl) E.u_isinstance (by decide +kernel) (pa_cons (pe_fld (pv 5) rfl) (pa_cons (pe_glob (v := .ref (cLoop K)) (by rfl) E.g_Loop rfl) pa_nil)))) (pw_and1 pt_never))) (pss_one ps_never) pss_nil)))))
      <| pss_one (ps_ret (pv 2)), ?_⟩
    obtain ⟨p, dx, pli, pld, ivs, dvs, rfl, hp, hli, ri, hld, rd⟩ := ht.tree
    refine ⟨by decide, fun F hF => ?_⟩
    have sm1 : Same H (upd H F (.lst [])) := same_new hF
    have f1 : (upd H F (.lst [])) F = some (.lst []) := upd_same
    generalize upd H F (.lst []) = H1 at sm1 f1 ⊢
    have smo : Same Ho H1 := fun b o e => sm1 _ _ (sm0 _ _ e)
    refine ⟨_, rfl, p, dx, _, rfl, smo _ _ hp, rfl, Ho, .ref p, t, rfl, smo, ht, dl, fun H4 v4 ⟨O, ys, ev4, n4, e4, ro, sm4⟩ => ?_⟩
    subst ev4
    have sm14 : Same H H4 := fun b o e => sm4 _ _ (sm1 _ _ e)
    refine ⟨O, rfl, ⟨_, SqL.of e4⟩, ?_⟩
    refine for_it (walk_list (K := K) (a := O) (xs := ys)) (fun i σ G => ∃ x3 x4 x5 : Option V, σ = [some sv, some (.ref p), some (.ref F), x3, x4, x5] ∧ Same H G ∧ G F = some (.lst []) ∧ G O = some (.lst ys)) ⟨none, none, none, rfl, sm14, sm4 _ _ f1, e4⟩ (fun i σ G _ ⟨_, _, _, _, _, _, s⟩ => SqL.of s) ?_ ?_
    · rintro i v σ G G' hi ⟨x3, x4, x5, rfl, sm, hf, hO⟩ ⟨rfl, hv⟩
      obtain ⟨ow, hs, r⟩ := ro.getL hv
      obtain ⟨op, od, bp, bd, bl, bnd, ep, ed, lp, ld, m, li, n, rfl, pw⟩ := r.pown (hpl _ (mem_owns (List.mem_of_getElem? hs)))
      have pwG := pw.same (fun b o e => sm _ _ (sm0 _ _ e))
      refine ⟨_, rfl, t.f, .ref op, ow, rfl, ⟨op, od, bp, bd, bl, bnd, ep, ed, lp, ld, m, li, n, rfl, pwG⟩, fun G5 M sm5 nM hM => ?_⟩
      have sm45 : Same H G5 := fun b o e => sm5 _ _ (sm _ _ e)
      have pw5 := pwG.same sm5
      refine ⟨M, rfl, ⟨_, SqL.of hM⟩, ?_⟩
      refine for_it (walk_list (K := K) (a := M) (xs := [])) (fun i σ G => G = G5 ∧ σ = [some sv, some (.ref p), some (.ref F), some (.ref op), x4, x5]) ⟨rfl, rfl⟩ (fun i σ G _ ⟨e, _⟩ => by rw [e]; exact SqL.of hM) (fun i v σ G G' hi => absurd hi (by simp)) ?_
      rintro σ G6 ⟨rfl, rfl⟩
      refine ⟨_, rfl, op, _, od, _, _, rfl, pw5.ow, E.C_Owner.c, E.n_Owner_body, rfl, bp, _, bd, _, _, rfl, pw5.b, E.C_Body.c, E.n_Body_entries, rfl, bl, rfl, ⟨_, SqL.of pw5.l⟩, ?_⟩
      refine for_it (walk_list (K := K) (a := bl) (xs := [.ref ep])) (fun i σ G => G = G6 ∧ ∃ x5 : Option V, σ = [some sv, some (.ref p), some (.ref F), some (.ref op), x4, x5]) ⟨rfl, x5, rfl⟩ (fun i σ G _ ⟨e, _⟩ => by rw [e]; exact SqL.of pw5.l) ?_ ?_
      · rintro j v2 σ G7 G8 hj ⟨rfl, y5, rfl⟩ ⟨rfl, hv2⟩
        have ev : v2 = .ref ep := by
          have := List.mem_of_getElem? hv2
          simpa using this
        subst ev
        refine ⟨_, rfl, ep, _, ed, _, _, rfl, pw5.e, E.C_Entry.c, E.n_Entry_value, rfl, ?_⟩
        exact ⟨_, _, _, _, false, rfl, .own _, E.ty 3 rfl E.C_Literal.c pw5.lit, E.kit 11 rfl, _, rfl, iteF (iteF ⟨rfl, _, rfl⟩)⟩
      · rintro σ G7 ⟨rfl, y5, rfl⟩
        exact ⟨_, _, _, rfl, sm45, sm5 _ _ hf, sm5 _ _ hO⟩
    · rintro σ G ⟨x3, x4, x5, rfl, sm, hf, hO⟩
      exact ⟨_, rfl, q G _ ⟨F, rfl, hF, hf, sm⟩⟩
theorem ok_rings (E : Env K mg) : FnOk P w K mg base CX0 3 (f_ring_faults K) (fd_ring_faults K) ["sources", "tree"] (spNone K) := by
  refine E.F_ring_faults.ok sc_ring_faults (fun vs H Q E h => ?_) (fun cdv A outer s H vs Q E1 hr h => ?_)
  · obtain ⟨Ho, sv, tv, t, rfl, _⟩ := h
    rfl
  · obtain ⟨Ho, sv, tv, t, rfl, sm0, ht, dl, hpl, q⟩ := h
    have nd := sc_ring_faults.nd
    have GI : FnOk P w K mg base CX0 2 (f_is_in_ring K) (fd_is_in_ring K) ["sources", "start"] (spRing K) := ok_inring E
    have GO : FnOk P w K mg base CX0 1 (f_FileTree_owners K) (fd_FileTree_owners K) ["self"] (spOwners K) := ok_owners E
    have Ct := E.C_FileTree.c
    refine ⟨_, pss_one (ps_ret (pe_lc (own := [("owner", 2)]) (g := gName 2) rfl nd (pi_list (pe_meth0 (pv 1) Ct E.M_FileTree_owners.m GO (hr.mono (by decide)) E.M_FileTree_owners.b .nil pass0)) (blkOk_by (N := ["sources", "tree", "owner"]) (sc := defScope s_ring_faults) (by decide +kernel))
      (fun _ _ _ _ _ => pg_name (i := 2) nd rfl (Or.inl rfl))
      (fun _ _ _ _ _ => pts_one (pt_val (pe_call GI hr (by rfl) E.D_is_in_ring.g E.D_is_in_ring.k E.D_is_in_ring.b .nil pass0 (pa_cons (pv 0) <| pa_cons (pv 2) pa_nil))))
      (fun _ _ _ _ _ => pe_never))), ?_⟩
    obtain ⟨p, dx, pli, pld, ivs, dvs, rfl, hp, hli, ri, hld, rd⟩ := ht.tree
    refine ⟨_, rfl, p, dx, _, rfl, sm0 _ _ hp, rfl, Ho, .ref p, t, rfl, sm0, ht, dl, fun H4 v4 ⟨O, ys, ev4, n4, e4, ro, sm4⟩ => ?_⟩
    subst ev4
    refine ⟨O, rfl, ⟨_, SqL.of e4⟩, fun D hD => ?_⟩
    refine lc_it (walk_list (K := K) (a := O) (xs := ys)) (fun i G => Same H4 G ∧ G D = some (.lst [])) ⟨same_new hD, upd_same⟩ (fun i G _ ⟨s, _⟩ => SqL.of (s _ _ e4)) ?_ ?_
    · rintro i v G G' hi ⟨sm, hd⟩ ⟨rfl, hv⟩
      obtain ⟨ow, hs, r⟩ := ro.getL hv
      obtain ⟨op, od, bp, bd, bl, bnd, ep, ed, lp, ld, m, li, n, rfl, pw⟩ := r.pown (hpl _ (mem_owns (List.mem_of_getElem? hs)))
      have pwG := pw.same (fun b o e => sm _ _ (sm4 _ _ (sm0 _ _ e)))
      exact ⟨rfl, _, rfl, _, rfl, t.f, sv, .ref op, ow, rfl, ⟨op, od, bp, bd, bl, bnd, ep, ed, lp, ld, m, li, n, rfl, pwG⟩, fun G5 sm5 => ⟨_, rfl, iteF ⟨fun b o e => sm5 _ _ (sm _ _ e), sm5 _ _ hd⟩⟩⟩
    · rintro G ⟨sm, hd⟩
      exact q G _ ⟨D, rfl, fresh_of sm4 hD, hd, fun b o e => sm _ _ (sm4 _ _ e)⟩
end
end V5

set_option maxHeartbeats 2000000
/-! What is given, in plain files; their fields. -/
namespace V5
open PySem PySem.Spec PyProof.Rows L2 K2

def spBase (K : PySem.W.Frag) : Sp := fun vs H Q _ => ∃ (f : Str) (p dx : Addr) (fs : List (Str × V)) (ov : V) (o : Ow), vs = [.ref p, ov] ∧ POwns K H f ov o ∧ Q ov H
/-- a thing given: the entry ev of the template ov -/
def RGi (K : PySem.W.Frag) (H : Hp) (gv ev ov : V) : Prop := ∃ p dx, gv = .ref p ∧ H p = some (.ins (cGiven K) dx (fGiven ev ov .non (.bl true)))
theorem RGi.same {K : PySem.W.Frag} {H H' : Hp} (s : Same H H') {gv ev ov : V} : RGi K H gv ev ov → RGi K H' gv ev ov := fun ⟨p, dx, e, h⟩ => ⟨p, dx, e, s _ _ h⟩
def spWithin (K : PySem.W.Frag) : Sp := fun vs H Q _ => ∃ (sv gv ov : V) (ep ed lp ld : Addr) (m : Mk) (li n : Nat), vs = [sv, gv] ∧ RGi K H gv (.ref ep) ov ∧ H ep = some (.ins (cEntry K) ed (fEnt (.int m.i) (.str m.n) (.bl false) (.ref lp))) ∧ H lp = some (.ins (cLiteral K) ld (fLit (.int li) (.int n))) ∧
  ∀ H', Same H H' → Q .non H'
def spGivens (K : PySem.W.Frag) : Sp := fun vs H Q _ => ∃ (sp sd : Addr) (sfs : List (Str × V)) (f : Str) (op od bp bd bl bnd ep ed lp ld : Addr) (o : Ow) (m : Mk) (li n : Nat), vs = [.ref sp, .ref op] ∧ H sp = some (.ins (cSources K) sd sfs) ∧ sfs.lookup ("base_of" : Str) = none ∧ POwn K H f op od bp bd bl bnd ep ed lp ld o m li n ∧
  ∀ H' l gv, Same H H' → H l = none → H' l = some (.lst [gv]) → RGi K H' gv (.ref ep) (.ref op) → Q (.ref l) H'
section
variable {P : Program} {w : World} {K : PySem.W.Frag} {mg : Str → Option Value} {base : Heap}
theorem ok_base_of (E : Env K mg) : FnOk P w K mg base CX0 1 (f_Sources_base_of K) (fd_Sources_base_of K) ["self", "owner"] (spBase K) := by
  refine E.F_Sources_base_of.ok sc_Sources_base_of (fun vs H Q E h => ?_) (fun cdv A outer s H vs Q E1 hr h => ?_)
  · obtain ⟨f, p, dx, fs, ov, o, rfl, _⟩ := h
    rfl
  · obtain ⟨f, p, dx, fs, ov, o, rfl, ⟨op, od, bp, bd, bl, bnd, ep, ed, lp, ld, m, li, n, rfl, pw⟩, q⟩ := h
    refine ⟨_, pss_cons (ps_while PassesOwn.never (pt_cmpR op_notN (pe_fld (pv 1) rfl) pe_non (nomark _)) (pss_one ps_never)) <| pss_one (ps_ret (pv 1)), ?_⟩
    refine ⟨fun k σ G => G = H ∧ σ = [some (.ref p), some (.ref op)], ⟨0, rfl, rfl⟩, ?_⟩
    rintro k σ G ⟨rfl, rfl⟩
    exact ⟨_, rfl, op, _, od, _, _, rfl, pw.ow, E.C_Owner.c, E.n_Owner_parent, rfl, rfl, _, rfl, iteF ⟨_, rfl, q⟩⟩
theorem ok_within (E : Env K mg) : FnOk P w K mg base CX0 1 (f_body_within K) (fd_body_within K) ["sources", "given"] (spWithin K) := by
  refine E.F_body_within.ok sc_body_within (fun vs H Q E h => ?_) (fun cdv A outer s H vs Q E1 hr h => ?_)
  · obtain ⟨sv, gv, ov, ep, ed, lp, ld, m, li, n, rfl, _⟩ := h
    rfl
  · obtain ⟨sv, gv, ov, ep, ed, lp, ld, m, li, n, rfl, ⟨gp, gd, rfl, hg⟩, he, hl, q⟩ := h
    have nd := sc_body_within.nd
    refine ⟨_, pss_cons (ps_set (i := 2) nd rfl (.inl rfl) (pe_fld (pe_fld (pv 1) rfl) rfl))
      <| pss_cons (ps_if (pt_val (pe_fld (pv 1) rfl))
          (pss_cons (ps_if (PW.pt (pw_or (pt_not (pt_val (pe_callB call_isiT (by rfl) E.u_isinstance (by decide +kernel) (pa_cons (pv 2) (pa_cons (pe_tup (pa_cons (pe_glob (v := .ref (cRecord K)) (by rfl) E.g_Record rfl) (pa_cons (pe_glob (v := .ref (cLoop K)) (by rfl) E.g_Loop rfl) pa_nil))) pa_nil))))) (pw_or1 pt_never)))
              (pss_one (ps_ret pe_non)) pss_nil)
            <| pss_cons ps_never <| pss_one ps_never) pss_nil)
      <| pss_cons ps_never <| pss_cons ps_never <| pss_one ps_never, ?_⟩
    refine ⟨_, rfl, gp, _, gd, _, _, rfl, hg, E.C_Given.c, E.n_Given_entry, rfl, ep, _, ed, _, _, rfl, he, E.C_Entry.c, E.n_Entry_value, rfl, ?_⟩
    refine ⟨_, rfl, gp, _, gd, _, _, rfl, hg, E.C_Given.c, E.n_Given_declares, rfl, _, rfl, iteT ?_⟩
    refine ⟨_, rfl, by show 2 ≤ sizeLine; decide, fun tp htp => ?_⟩
    have sm6 : Same H (upd H tp (.tup [.ref (cRecord K), .ref (cLoop K)])) := same_new htp
    exact ⟨_, tp, _, _, _, false, rfl, upd_same, .cons (.own _) (.cons (.own _) .nil), E.ty 3 rfl E.C_Literal.c (sm6 _ _ hl), any2 (E.kit 10 rfl) (E.kit 11 rfl), _, rfl, iteT (iteT (q _ sm6))⟩
theorem ok_givens (E : Env K mg) : FnOk P w K mg base CX0 3 (f_givens K) (fd_givens K) ["sources", "owner"] (spGivens K) := by
  refine E.F_givens.ok sc_givens (fun vs H Q E h => ?_) (fun cdv A outer s H vs Q E1 hr h => ?_)
  · obtain ⟨sp, sd, sfs, f, op, od, bp, bd, bl, bnd, ep, ed, lp, ld, o, m, li, n, rfl, _⟩ := h
    rfl
  · obtain ⟨sp, sd, sfs, f, op, od, bp, bd, bl, bnd, ep, ed, lp, ld, o, m, li, n, rfl, hs, hsf, pw, q⟩ := h
    have nd := sc_givens.nd
    have GB : FnOk P w K mg base CX0 1 (f_Sources_base_of K) (fd_Sources_base_of K) ["self", "owner"] (spBase K) := ok_base_of E
    have GW : FnOk P w K mg base CX0 1 (f_body_within K) (fd_body_within K) ["sources", "given"] (spWithin K) := ok_within E
    have GG : FnOk P w K mg base CX0 1 (f_Given___init__ K) (fd_Given___init__ K) ["self", "entry", "base", "loop", "declares"] (spGiven K) := ok_Given E
    refine ⟨_, pss_cons (ps_set (i := 2) nd rfl (.inl rfl) (pe_lst pa_nil))
      <| pss_cons (ps_set (i := 3) nd rfl (.inl rfl) (pe_lst (pa_cons (pe_tup (pa_cons (pe_fld (pv 1) rfl) <| pa_cons (pe_meth (pv 0) E.C_Sources.c E.M_Sources_base_of.m GB (hr.mono (by decide)) E.M_Sources_base_of.b .nil pass0 (pa_cons (pv 1) pa_nil)) <| pa_cons pe_non pa_nil)) pa_nil)))
      <| pss_cons (ps_while PassesOwn.never (pt_truth (pv 3) (by intro _; rfl))
          (pss_cons (ps_asg (pe_bm0 PySem.F.plainAttrs_list PySem.F.slot_list_pop PySem.F.type_list_pop mt_pop (pv 3)) (pg_tup rfl (pgs_cons (pg_name (i := 4) nd rfl (.inl rfl)) (pgs_cons (pg_name (i := 5) nd rfl (.inl rfl)) (pgs_cons (pg_name (i := 6) nd rfl (.inl rfl)) pgs_nil)))))
            <| pss_one (ps_for PassesOwn.never rfl (pi_list (pe_fld (pv 4) rfl)) (pg_name (i := 7) nd rfl (.inl rfl))
                (pss_cons (ps_set (i := 8) nd rfl (.inl rfl) (pe_make E.C_Given.k GG (hr.mono (by decide)) (by rfl) E.C_Given.g E.C_Given.b .nil pass0 (pa_cons (pv 7) <| pa_cons (pv 5) <| pa_cons (pv 6) <| pa_cons (pe_fld (pv 4) rfl) pa_nil)))
                  <| pss_cons (ps_expr (pe_bm PySem.F.plainAttrs_list PySem.F.slot_list_append PySem.F.type_list_append mt_append (pv 2) (pa_cons (pv 8) pa_nil)))
                  <| pss_cons (ps_set (i := 9) nd rfl (.inl rfl) (pe_call GW (hr.mono (by decide)) (by rfl) E.D_body_within.g E.D_body_within.k E.D_body_within.b .nil pass0 (pa_cons (pv 0) <| pa_cons (pv 8) pa_nil)))
                  <| pss_one (ps_if (pt_cmpR op_notN (pv 9) pe_non (nomark _)) (pss_one ps_never) pss_nil)))))
      <| pss_one (ps_ret (pv 2)), ?_⟩
    refine ⟨by decide, fun F hF => ?_⟩
    have sm1 : Same H (upd H F (.lst [])) := same_new hF
    have f1 : (upd H F (.lst [])) F = some (.lst []) := upd_same
    generalize upd H F (.lst []) = H1 at sm1 f1 ⊢
    refine ⟨_, rfl, op, _, od, _, _, rfl, sm1 _ _ pw.ow, E.C_Owner.c, E.n_Owner_body, rfl, _, rfl, sp, sd, sfs, rfl, sm1 _ _ hs, hsf, _, rfl, f, sp, sd, sfs, .ref op, o, rfl, ⟨op, od, bp, bd, bl, bnd, ep, ed, lp, ld, m, li, n, rfl, pw.same sm1⟩, ?_⟩
    refine ⟨by show 3 ≤ sizeLine; decide, fun T hT => ?_⟩
    have sm2 : Same H1 (upd H1 T (.tup [.ref bp, .ref op, .non])) := same_new hT
    refine ⟨by show 1 ≤ sizeLine; decide, fun W hW => ?_⟩
    have sm3 : Same (upd H1 T (.tup [.ref bp, .ref op, .non])) (upd (upd H1 T (.tup [.ref bp, .ref op, .non])) W (.lst [.ref T])) := same_new hW
    have t3 := sm3 T _ upd_same
    have w3 : (upd (upd H1 T (.tup [.ref bp, .ref op, .non])) W (.lst [.ref T])) W = some (.lst [.ref T]) := upd_same
    have f3 := sm3 _ _ (sm2 _ _ f1)
    have sm03 : Same H (upd (upd H1 T (.tup [.ref bp, .ref op, .non])) W (.lst [.ref T])) := fun b o e => sm3 _ _ (sm2 _ _ (sm1 _ _ e))
    have WN : H W = none := fresh_of (fun b o e => sm2 _ _ (sm1 _ _ e)) hW
    have nWT : W ≠ T := (ne_of_none upd_same hW).symm
    have nWF : W ≠ F := (ne_of_none (sm2 _ _ f1) hW).symm
    generalize upd (upd H1 T (.tup [.ref bp, .ref op, .non])) W (.lst [.ref T]) = H3 at t3 w3 f3 sm03 ⊢
    refine ⟨fun k σ G => ∃ x4 x5 x6 x7 x8 x9 : Option V, σ = [some (.ref sp), some (.ref op), some (.ref F), some (.ref W), x4, x5, x6, x7, x8, x9] ∧ Same H G ∧ ((k = 1 ∧ G W = some (.lst [.ref T]) ∧ G F = some (.lst []) ∧ G T = some (.tup [.ref bp, .ref op, .non])) ∨
        (k = 0 ∧ G W = some (.lst []) ∧ ∃ gv, G F = some (.lst [gv]) ∧ RGi K G gv (.ref ep) (.ref op))), ⟨1, none, none, none, none, none, none, rfl, sm03, .inl ⟨rfl, w3, f3, t3⟩⟩, ?_⟩
    rintro k σ G ⟨x4, x5, x6, x7, x8, x9, rfl, sm, ⟨rfl, gw, gf, gt⟩ | ⟨rfl, gw, gv, gf, hg⟩⟩
    · refine ⟨_, rfl, true, .inl ⟨_, SqL.of gw, rfl⟩, ?_⟩
      refine ⟨fun σ' G => ∃ k', k' < 1 ∧ ∃ x4 x5 x6 x7 x8 x9 : Option V, σ' = [some (.ref sp), some (.ref op), some (.ref F), some (.ref W), x4, x5, x6, x7, x8, x9] ∧ Same H G ∧ ((k' = 1 ∧ G W = some (.lst [.ref T]) ∧ G F = some (.lst []) ∧ G T = some (.tup [.ref bp, .ref op, .non])) ∨
        (k' = 0 ∧ G W = some (.lst []) ∧ ∃ gv, G F = some (.lst [gv]) ∧ RGi K G gv (.ref ep) (.ref op))), fun _ _ w => w, ?_⟩
      refine ⟨_, rfl, .inl ⟨rfl, _, SqL.of gw⟩, W, _, .ref T, rfl, rfl, gw, rfl, ?_⟩
      generalize hG4 : upd G W _ = G4
      have sm4 : Same H G4 := fun b o e => by
        rw [← hG4, upd_ne (ne_of_none e WN)]
        exact sm _ _ e
      have w4 : G4 W = some (.lst []) := by rw [← hG4, upd_same]; rfl
      have f4 : G4 F = some (.lst []) := by rw [← hG4, upd_ne (Ne.symm nWF)]; exact gf
      have t4 : G4 T = some (.tup [.ref bp, .ref op, .non]) := by rw [← hG4, upd_ne (Ne.symm nWT)]; exact gt
      have pw4 := pw.same sm4
      refine ⟨T, _, rfl, SqT.of t4, rfl, ?_⟩
      refine ⟨_, _, rfl, _, _, rfl, _, _, rfl, rfl, _, rfl, bp, _, bd, _, _, rfl, pw4.b, E.C_Body.c, E.n_Body_entries, rfl, bl, rfl, ⟨_, SqL.of pw4.l⟩, ?_⟩
      refine for_it (walk_list (K := K) (a := bl) (xs := [.ref ep])) (fun i σ G => ∃ x7 x8 x9 : Option V, σ = [some (.ref sp), some (.ref op), some (.ref F), some (.ref W), some (.ref bp), some (.ref op), some .non, x7, x8, x9] ∧ Same H G ∧ G W = some (.lst []) ∧
          ((i = 0 ∧ G F = some (.lst [])) ∨ (i = 1 ∧ ∃ gv, G F = some (.lst [gv]) ∧ RGi K G gv (.ref ep) (.ref op)))) ⟨x7, x8, x9, rfl, sm4, w4, .inl ⟨rfl, f4⟩⟩ (fun i σ G _ ⟨_, _, _, _, s, _⟩ => SqL.of (s _ _ pw.l)) ?_ ?_
      · rintro i v σ G5 G6 hi ⟨y7, y8, y9, rfl, sm5, w5, hc⟩ ⟨rfl, hv⟩
        have i0 : i = 0 := by
          have : i < 1 := hi
          omega
        subst i0
        have f5 : G6 F = some (.lst []) := by
          rcases hc with ⟨_, h⟩ | ⟨z, _⟩
          · exact h
          · omega
        cases hv
        have pw5 := pw.same sm5
        refine ⟨_, rfl, _, rfl, _, rfl, _, rfl, bp, _, bd, _, _, rfl, pw5.b, E.C_Body.c, E.n_Body_declaring, rfl, ?_⟩
        intro x dx hx hdx nex
        refine ⟨x, dx, _, _, _, _, rfl, upd_same, fun H7 b7 h7 => ⟨rfl, ?_⟩⟩
        have sm7 : Same G6 H7 := fun b o e => by
          rw [b7 b (ne_of_none e hx), upd_ne (ne_of_none e hx), upd_ne (ne_of_none e hdx)]
          exact e
        have f7 := sm7 _ _ f5
        have sm67 : Same H H7 := fun b o e => sm7 _ _ (sm5 _ _ e)
        refine ⟨_, rfl, .inl ⟨rfl, _, SqL.of f7⟩, _, rfl, F, _, _, rfl, rfl, f7, by decide, ?_⟩
        generalize hG8 : upd H7 F _ = G8
        have sm8 : Same H G8 := fun b o e => by
          rw [← hG8, upd_ne (ne_of_none e hF)]
          exact sm67 _ _ e
        have nxF : x ≠ F := (ne_of_none f5 hx).symm
        have f8 : G8 F = some (.lst [.ref x]) := by rw [← hG8, upd_same]; rfl
        have x8' : G8 x = some (.ins (cGiven K) dx (fGiven (.ref ep) (.ref op) .non (.bl true))) := by rw [← hG8, upd_ne nxF]; exact h7
        have w8 : G8 W = some (.lst []) := by rw [← hG8, upd_ne nWF]; exact sm7 _ _ w5
        have pw8 := pw.same sm8
        refine ⟨_, rfl, _, rfl, .ref sp, .ref x, .ref op, ep, ed, lp, ld, m, li, n, rfl, ⟨x, dx, rfl, x8'⟩, pw8.e, pw8.lit, fun G9 sm9 => ?_⟩
        refine ⟨_, rfl, rfl, _, rfl, iteF ?_⟩
        exact ⟨_, _, _, rfl, fun b o e => sm9 _ _ (sm8 _ _ e), sm9 _ _ w8, .inr ⟨rfl, .ref x, sm9 _ _ f8, x, dx, rfl, sm9 _ _ x8'⟩⟩
      · rintro σ G5 ⟨y7, y8, y9, rfl, sm5, w5, hc⟩
        rcases hc with ⟨z, _⟩ | ⟨_, gv, gf5, hg5⟩
        · exact absurd z (by simp)
        · exact ⟨0, by decide, _, _, _, y7, y8, y9, rfl, sm5, .inr ⟨rfl, w5, gv, gf5, hg5⟩⟩
    · refine ⟨_, rfl, false, .inl ⟨_, SqL.of gw, rfl⟩, ?_⟩
      exact ⟨_, rfl, q G F gv sm hF gf hg⟩
end
end V5

set_option maxHeartbeats 2000000
/-! The fields of plain files. -/
namespace V5
open PySem PySem.Spec PyProof.Rows L2 K2

def spPaths (K : PySem.W.Frag) : Sp := fun vs H Q _ => ∃ (lp ld : Addr) (li n : Nat), vs = [.ref lp] ∧ H lp = some (.ins (cLiteral K) ld (fLit (.int li) (.int n))) ∧ ∀ H' l, Same H H' → H l = none → H' l = some (.lst []) → Q (.ref l) H'
def spGf (K : PySem.W.Frag) : Sp := fun vs H Q _ => ∃ (sv ov gv o2 : V) (ep ed lp ld : Addr) (m : Mk) (li n : Nat), vs = [sv, ov, gv] ∧ RGi K H gv (.ref ep) o2 ∧ H ep = some (.ins (cEntry K) ed (fEnt (.int m.i) (.str m.n) (.bl false) (.ref lp))) ∧ H lp = some (.ins (cLiteral K) ld (fLit (.int li) (.int n))) ∧
  ∀ H' v, Out H H' v [] → Q v H'
def spSkinds (K : PySem.W.Frag) : Sp := fun vs H Q _ => ∃ (f : Str) (v : V) (s : Sk) (Ho : Hp), vs = [v] ∧ Same Ho H ∧ RSk K Ho f v s ∧ s.cs.length ≤ 1000 ∧ ∀ H' d, Same H H' → Q (.ref d) H'
/-- a check of a file that finds nothing, over the sources -/
def spNoneS (K : PySem.W.Frag) : Sp := fun vs H Q _ => ∃ (Ho : Hp) (sp sd : Addr) (sfs : List (Str × V)) (tv : V) (t : Fi), vs = [.ref sp, tv] ∧ H sp = some (.ins (cSources K) sd sfs) ∧ sfs.lookup ("base_of" : Str) = none ∧ Same Ho H ∧ RFi K Ho tv t ∧ t.ds.length ≤ 1000 ∧ (∀ d ∈ t.ds, PlainD d) ∧
  ∀ H' v, Out H H' v [] → Q v H'
theorem putK_fold_len {α : Type} (f : α → Key) (g : α → V) (xs : List α) (k0 : List (Key × V)) : (xs.foldl (fun k a => putK k (f a) (g a)) k0).length ≤ k0.length + xs.length := by
  induction xs generalizing k0 with
  | nil => exact Nat.le_refl _
  | cons p r ih =>
    rw [List.foldl_cons, List.length_cons]
    have h1 := ih (putK k0 (f p) (g p))
    have h2 := length_putK k0 (f p) (g p)
    omega
section
variable {P : Program} {w : World} {K : PySem.W.Frag} {mg : Str → Option Value} {base : Heap}
theorem ok_paths (E : Env K mg) : FnOk P w K mg base CX0 1 (f_paths_of K) (fd_paths_of K) ["value"] (spPaths K) := by
  refine E.F_paths_of.ok sc_paths_of (fun vs H Q E h => ?_) (fun cdv A outer s H vs Q E1 hr h => ?_)
  · obtain ⟨lp, ld, li, n, rfl, _⟩ := h
    rfl
  · obtain ⟨lp, ld, li, n, rfl, hl, q⟩ := h
    refine ⟨_, pss_one (ps_ret (pe_ifExp (pt_val (pe_callB call_isi (by rfl) E.u_isinstance (by decide +kernel) (pa_cons (pv 0) (pa_cons (pe_glob (v := .ref (cLiteral K)) (by rfl) E.g_Literal rfl) pa_nil)))) (pe_lst pa_nil) pe_never)), ?_⟩
    exact ⟨_, rfl, _, _, _, _, true, rfl, .own _, E.ty 3 rfl E.C_Literal.c hl, kit_self, _, rfl, iteT ⟨by decide, fun l hn => q _ l (same_new hn) hn upd_same⟩⟩
theorem ok_gf (E : Env K mg) : FnOk P w K mg base CX0 2 (f_given_faults_fields K) (fd_given_faults_fields K) ["sources", "owner", "given"] (spGf K) := by
  refine E.F_given_faults_fields.ok sc_given_faults_fields (fun vs H Q E h => ?_) (fun cdv A outer s H vs Q E1 hr h => ?_)
  · obtain ⟨sv, ov, gv, o2, ep, ed, lp, ld, m, li, n, rfl, _⟩ := h
    rfl
  · obtain ⟨sv, ov, gv, o2, ep, ed, lp, ld, m, li, n, rfl, ⟨gp, gd, rfl, hg⟩, he, hl, q⟩ := h
    have nd := sc_given_faults_fields.nd
    have GP : FnOk P w K mg base CX0 1 (f_paths_of K) (fd_paths_of K) ["value"] (spPaths K) := ok_paths E
    refine ⟨_, pss_cons (ps_set (i := 3) nd rfl (.inl rfl) (pe_fld (pe_fld (pv 2) rfl) rfl))
      <| pss_cons (ps_set (i := 4) nd rfl (.inl rfl) (pe_ifExp (PW.pt (pw_or (pt_val (pe_fld (pv 2) rfl)) (pw_or1 pt_never))) (pe_lst pa_nil) pe_never))
      <| pss_cons (ps_if (pt_val (pe_callB call_isi (by rfl) E.u_isinstance (by decide +kernel) (pa_cons (pv 3) (pa_cons (pe_glob (v := .ref (cLoop K)) (by rfl) E.g_Loop rfl) pa_nil)))) (pss_one ps_never) pss_nil)
      <| pss_cons (ps_if (pt_val (pe_callB call_isiT (by rfl) E.u_isinstance (by decide +kernel) (pa_cons (pv 3) (pa_cons (pe_tup (pa_cons (pe_glob (v := .ref (cRecord K)) (by rfl) E.g_Record rfl) (pa_cons (pe_glob (v := .ref (cBody K)) (by rfl) E.g_Body rfl) pa_nil))) pa_nil)))) (pss_one ps_never) pss_nil)
      <| pss_cons (ps_for PassesOwn.never rfl (pi_list (pe_call GP hr (by rfl) E.D_paths_of.g E.D_paths_of.k E.D_paths_of.b .nil pass0 (pa_cons (pv 3) pa_nil))) (pg_name (i := 5) nd rfl (.inl rfl)) (pss_one ps_never))
      <| pss_one (ps_ret (pv 4)), ?_⟩
    refine ⟨_, rfl, gp, _, gd, _, _, rfl, hg, E.C_Given.c, E.n_Given_entry, rfl, ep, _, ed, _, _, rfl, he, E.C_Entry.c, E.n_Entry_value, rfl, ?_⟩
    refine ⟨_, rfl, gp, _, gd, _, _, rfl, hg, E.C_Given.c, E.n_Given_declares, rfl, _, rfl, iteT (iteT ⟨by decide, fun F hF => ?_⟩)⟩
    have sm1 : Same H (upd H F (.lst [])) := same_new hF
    have f1 : (upd H F (.lst [])) F = some (.lst []) := upd_same
    generalize upd H F (.lst []) = H1 at sm1 f1 ⊢
    refine ⟨_, rfl, _, _, _, _, false, rfl, .own _, E.ty 3 rfl E.C_Literal.c (sm1 _ _ hl), E.kit 11 rfl, _, rfl, iteF ?_⟩
    refine ⟨_, rfl, by show 2 ≤ sizeLine; decide, fun tp htp => ?_⟩
    have sm6 : Same H1 (upd H1 tp (.tup [.ref (cRecord K), .ref (cBody K)])) := same_new htp
    refine ⟨_, tp, _, _, _, false, rfl, upd_same, .cons (.own _) (.cons (.own _) .nil), E.ty 3 rfl E.C_Literal.c (sm6 _ _ (sm1 _ _ hl)), any2 (E.kit 10 rfl) (E.kit 12 rfl), _, rfl, iteF ?_⟩
    have sm16 : Same H (upd H1 tp (.tup [.ref (cRecord K), .ref (cBody K)])) := fun b o e => sm6 _ _ (sm1 _ _ e)
    have f6 := sm6 _ _ f1
    generalize upd H1 tp (.tup [.ref (cRecord K), .ref (cBody K)]) = H2 at sm16 f6 ⊢
    refine ⟨_, rfl, lp, ld, li, n, rfl, sm16 _ _ hl, fun H3 l sm3 nl hl3 => ?_⟩
    refine ⟨l, rfl, ⟨_, SqL.of hl3⟩, ?_⟩
    refine for_it (walk_list (K := K) (a := l) (xs := [])) (fun i σ G => G = H3 ∧ σ = [some sv, some ov, some (.ref gp), some (.ref lp), some (.ref F), none]) ⟨rfl, rfl⟩ (fun i σ G _ ⟨e, _⟩ => by rw [e]; exact SqL.of hl3) (fun i v σ G G' hi => absurd hi (by simp)) ?_
    rintro σ G ⟨rfl, rfl⟩
    exact ⟨_, rfl, q G _ ⟨F, rfl, hF, sm3 _ _ f6, fun b o e => sm3 _ _ (sm16 _ _ e)⟩⟩
theorem ok_skinds (E : Env K mg) : FnOk P w K mg base CX0 1 (f_Stock_kinds K) (fd_Stock_kinds K) ["self"] (spSkinds K) := by
  refine E.F_Stock_kinds.ok sc_Stock_kinds (fun vs H Q E h => ?_) (fun cdv A outer s H vs Q E1 hr h => ?_)
  · obtain ⟨f, v, s, Ho, rfl, _⟩ := h
    rfl
  · obtain ⟨f, v, sk, Ho, rfl, sm0, ⟨p, dx, lc, lg, cvs, rfl, hp, hlc, rc, hlg⟩, hn, q⟩ := h
    have nd := sc_Stock_kinds.nd
    refine ⟨_, pss_one (ps_ret (pe_dc (own := [("column", 1)]) (g := gName 1) (tt := tYes) rfl nd (pi_list (pe_fld (pv 0) rfl)) (blkOk_by (N := ["self", "column"]) (sc := defScope s_Stock_kinds) (by decide +kernel))
      (fun _ _ _ _ _ => pg_name (i := 1) nd rfl (Or.inl rfl)) (fun _ _ _ _ _ => pts_nil) (fun _ _ _ _ _ => show PE _ _ (tFld K (tVar 1) "name") from pe_fld (pv 1) rfl) (fun _ _ _ _ _ => show PE _ _ (tFld K (tVar 1) "kind") from pe_fld (pv 1) rfl))), ?_⟩
    refine ⟨_, rfl, p, _, dx, _, _, rfl, sm0 _ _ hp, E.C_Stock.c, E.n_Stock_columns, rfl, lc, rfl, ⟨_, SqL.of (sm0 _ _ hlc)⟩, fun D hD => ?_⟩
    refine dict_it (walk_list (K := K) (a := lc) (xs := cvs)) (fun i G => ∃ kk, G = upd H D (.dK kk) ∧ kk.length ≤ i) ⟨[], rfl, Nat.le_refl _⟩ (fun i G _ ⟨kk, e, _⟩ => by rw [e]; exact SqL.of (same_new hD _ _ (sm0 _ _ hlc))) ?_ ?_
    · rintro i v G G' hi ⟨kk, rfl, hl⟩ ⟨rfl, hiv⟩
      obtain ⟨c, hc, cp, cd, rfl, hcp⟩ := rc.getL hiv
      have il : i < sk.cs.length := (List.getElem?_eq_some_iff.mp hc).1
      have lp := length_putK kk (Sum.inr c.m.n : Key) (.str c.k)
      refine ⟨rfl, _, rfl, cp, _, cd, _, _, rfl, same_new hD _ _ (sm0 _ _ hcp), E.C_Column.c, E.n_Column_name, rfl, _, rfl, cp, _, cd, _, _, rfl, same_new hD _ _ (sm0 _ _ hcp), E.C_Column.c, E.n_Column_kind, rfl, kk, .inr c.m.n, rfl, upd_same, small1000 (by omega), putK kk (.inr c.m.n) (.str c.k), upd_upd .., by omega⟩
    · rintro G ⟨kk, rfl, hl⟩
      exact q _ D (same_new hD)
theorem ok_fields (E : Env K mg) : FnOk P w K mg base CX0 4 (f_field_faults K) (fd_field_faults K) ["sources", "tree"] (spNoneS K) := by
  refine E.F_field_faults.ok sc_field_faults (fun vs H Q E h => ?_) (fun cdv A outer s H vs Q E1 hr h => ?_)
  · obtain ⟨Ho, sp, sd, sfs, tv, t, rfl, _⟩ := h
    rfl
  · obtain ⟨Ho, sp, sd, sfs, tv, t, rfl, hsp, hsf, sm0, ht, dl, hpl, q⟩ := h
    have nd := sc_field_faults.nd
    have GS : FnOk P w K mg base CX0 1 (f_FileTree_stocks K) (fd_FileTree_stocks K) ["self"] (spStocks K) := ok_stocks E
    have GO : FnOk P w K mg base CX0 1 (f_FileTree_owners K) (fd_FileTree_owners K) ["self"] (spOwners K) := ok_owners E
    have GK : FnOk P w K mg base CX0 1 (f_Stock_kinds K) (fd_Stock_kinds K) ["self"] (spSkinds K) := ok_skinds E
    have GG : FnOk P w K mg base CX0 3 (f_givens K) (fd_givens K) ["sources", "owner"] (spGivens K) := ok_givens E
    have GF : FnOk P w K mg base CX0 2 (f_given_faults_fields K) (fd_given_faults_fields K) ["sources", "owner", "given"] (spGf K) := ok_gf E
    have Ct := E.C_FileTree.c
    refine ⟨_, pss_cons (ps_set (i := 2) nd rfl (.inl rfl) (pe_lst pa_nil))
      <| pss_cons (ps_for PassesOwn.never rfl (pi_list (pe_meth0 (pv 1) Ct E.M_FileTree_stocks.m GS (hr.mono (by decide)) E.M_FileTree_stocks.b .nil pass0)) (pg_name (i := 3) nd rfl (.inl rfl))
          (pss_cons (ps_set (i := 4) nd rfl (.inr rfl) (pe_meth0 (pv 3) E.C_Stock.c E.M_Stock_kinds.m GK (hr.mono (by decide)) E.M_Stock_kinds.b .nil pass0))
            <| pss_one (ps_for PassesOwn.never rfl (pi_list (pe_fld (pv 3) rfl)) (pg_name (i := 5) nd rfl (.inl rfl)) (pss_one ps_never))))
      <| pss_cons (ps_for PassesOwn.never rfl (pi_list (pe_meth0 (pv 1) Ct E.M_FileTree_owners.m GO (hr.mono (by decide)) E.M_FileTree_owners.b .nil pass0)) (pg_name (i := 7) nd rfl (.inl rfl))
          (pss_one (ps_for PassesOwn.never rfl (pi_list (pe_call GG hr (by rfl) E.D_givens.g E.D_givens.k E.D_givens.b .nil pass0 (pa_cons (pv 0) <| pa_cons (pv 7) pa_nil))) (pg_name (i := 8) nd rfl (.inl rfl))
            (pss_one (ps_aug (i := 2) nd rfl (.inl rfl) (pe_call GF (hr.mono (by decide)) (by rfl) E.D_given_faults_fields.g E.D_given_faults_fields.k E.D_given_faults_fields.b .nil pass0 (pa_cons (pv 0) <| pa_cons (pv 7) <| pa_cons (pv 8) pa_nil)) iop_ext)))))
      <| pss_one (ps_ret (pv 2)), ?_⟩
    obtain ⟨p, dx, pli, pld, ivs, dvs, rfl, hp, hli, ri, hld, rd⟩ := ht.tree
    refine ⟨by decide, fun F hF => ?_⟩
    have sm1 : Same H (upd H F (.lst [])) := same_new hF
    have f1 : (upd H F (.lst [])) F = some (.lst []) := upd_same
    generalize upd H F (.lst []) = H1 at sm1 f1 ⊢
    have smo : Same Ho H1 := fun b o e => sm1 _ _ (sm0 _ _ e)
    refine ⟨_, rfl, p, dx, _, rfl, smo _ _ hp, rfl, Ho, .ref p, t, rfl, smo, ht, dl, fun H4 v4 ⟨S, xs, ev4, n4, e4, rs, sm4⟩ => ?_⟩
    subst ev4
    have sm14 : Same H H4 := fun b o e => sm4 _ _ (sm1 _ _ e)
    refine ⟨S, rfl, ⟨_, SqL.of e4⟩, ?_⟩
    refine for_it (walk_list (K := K) (a := S) (xs := xs)) (fun i σ G => ∃ x3 x4 : Option V, σ = [some (.ref sp), some (.ref p), some (.ref F), x3, x4, none, none, none, none] ∧ Same H G ∧ G F = some (.lst []) ∧ G S = some (.lst xs)) ⟨none, none, rfl, sm14, sm4 _ _ f1, e4⟩ (fun i σ G _ ⟨_, _, _, _, _, s⟩ => SqL.of s) ?_ ?_
    · rintro i v σ G G' hi ⟨x3, x4, rfl, sm, hf, hS⟩ ⟨rfl, hv⟩
      obtain ⟨sk, hs, rsk⟩ := rs.getL hv
      obtain ⟨c, hc⟩ := hpl _ (mem_stks (List.mem_of_getElem? hs))
      obtain ⟨kp, kd, lc, lg, cvs, rfl, hkp, hlc, rc, hlg⟩ := id rsk
      have smG : Same Ho G' := fun b o e => sm _ _ (sm0 _ _ e)
      refine ⟨_, rfl, kp, kd, _, rfl, smG _ _ hkp, rfl, t.f, .ref kp, sk, Ho, rfl, smG, rsk, by rw [hc]; exact (by decide : 1 ≤ 1000), fun G2 d2 sm2 => ?_⟩
      refine ⟨_, rfl, kp, _, kd, _, _, rfl, sm2 _ _ (smG _ _ hkp), E.C_Stock.c, E.n_Stock_goods, rfl, lg, rfl, ⟨_, SqL.of (sm2 _ _ (smG _ _ hlg))⟩, ?_⟩
      refine for_it (walk_list (K := K) (a := lg) (xs := [])) (fun i σ G => G = G2 ∧ σ = [some (.ref sp), some (.ref p), some (.ref F), some (.ref kp), some (.ref d2), none, none, none, none]) ⟨rfl, rfl⟩ (fun i σ G _ ⟨e, _⟩ => by rw [e]; exact SqL.of (sm2 _ _ (smG _ _ hlg))) (fun i v σ G G' hi => absurd hi (by simp)) ?_
      rintro σ G ⟨rfl, rfl⟩
      exact ⟨_, _, rfl, fun b o e => sm2 _ _ (sm _ _ e), sm2 _ _ hf, sm2 _ _ hS⟩
    · rintro σ G ⟨x3, x4, rfl, sm, hf, hS⟩
      have smG : Same Ho G := fun b o e => sm _ _ (sm0 _ _ e)
      refine ⟨_, rfl, p, dx, _, rfl, smG _ _ hp, rfl, Ho, .ref p, t, rfl, smG, ht, dl, fun H5 v5 ⟨O, ys, ev5, n5, e5, ro, sm5⟩ => ?_⟩
      subst ev5
      have sm55 : Same H H5 := fun b o e => sm5 _ _ (sm _ _ e)
      have nOF : O ≠ F := (ne_of_none hf n5).symm
      refine ⟨O, rfl, ⟨_, SqL.of e5⟩, ?_⟩
      refine for_it (walk_list (K := K) (a := O) (xs := ys)) (fun i σ G => ∃ x7 x8 : Option V, σ = [some (.ref sp), some (.ref p), some (.ref F), x3, x4, none, none, x7, x8] ∧ Same H G ∧ G F = some (.lst []) ∧ G O = some (.lst ys)) ⟨none, none, rfl, sm55, sm5 _ _ hf, e5⟩ (fun i σ G _ ⟨_, _, _, _, _, s⟩ => SqL.of s) ?_ ?_
      · rintro i v σ G2 G3 hi ⟨x7, x8, rfl, sm', hf', hO⟩ ⟨rfl, hv⟩
        obtain ⟨ow, hs, r⟩ := ro.getL hv
        obtain ⟨op, od, bp, bd, bl, bnd, ep, ed, lp, ld, m, li, n, rfl, pw⟩ := r.pown (hpl _ (mem_owns (List.mem_of_getElem? hs)))
        have pwG := pw.same (fun b o e => sm' _ _ (sm0 _ _ e))
        refine ⟨_, rfl, _, rfl, sp, sd, sfs, t.f, op, od, bp, bd, bl, bnd, ep, ed, lp, ld, ow, m, li, n, rfl, sm' _ _ hsp, hsf, pwG, fun G4 l gv sm4' nl hl hg => ?_⟩
        have nlF : l ≠ F := (ne_of_none hf' nl).symm
        have sm44 : Same H G4 := fun b o e => sm4' _ _ (sm' _ _ e)
        refine ⟨l, rfl, ⟨_, SqL.of hl⟩, ?_⟩
        refine for_it (walk_list (K := K) (a := l) (xs := [gv])) (fun i σ G => ∃ x8 : Option V, σ = [some (.ref sp), some (.ref p), some (.ref F), x3, x4, none, none, some (.ref op), x8] ∧ Same H G ∧ G F = some (.lst []) ∧ G O = some (.lst ys) ∧ G l = some (.lst [gv]) ∧ RGi K G gv (.ref ep) (.ref op)) ⟨x8, rfl, sm44, sm4' _ _ hf', sm4' _ _ hO, hl, hg⟩ (fun i σ G _ ⟨_, _, _, _, _, s, _⟩ => SqL.of s) ?_ ?_
        · rintro j v2 σ G5 G6 hj ⟨y8, rfl, sm5', f5', O5', l5', g5'⟩ ⟨rfl, hv2⟩
          have ev : v2 = gv := by
            have := List.mem_of_getElem? hv2
            simpa using this
          subst ev
          have pw6 := pw.same (fun b o e => sm5' _ _ (sm0 _ _ e))
          refine ⟨_, rfl, _, rfl, _, rfl, _, rfl, .ref sp, .ref op, v2, .ref op, ep, ed, lp, ld, m, li, n, rfl, g5', pw6.e, pw6.lit, fun G7 v7 ⟨l7, ev7, n7, e7, sm7⟩ => ?_⟩
          subst ev7
          have f7 := sm7 _ _ f5'
          refine ⟨F, l7, [], [], rfl, rfl, f7, e7, by decide, ?_⟩
          generalize hG8 : upd G7 F _ = G8
          have keep : ∀ b o, b ≠ F → G7 b = some o → G8 b = some o := fun b o nb e => by rw [← hG8, upd_ne nb]; exact e
          have gpF : ∀ gp, v2 = .ref gp → gp ≠ F := by
            rintro gp rfl
            obtain ⟨gp', gd, e, hgp⟩ := g5'
            cases e
            rintro rfl
            rw [f5'] at hgp
            cases hgp
          refine ⟨_, rfl, fun b o e => keep b o (ne_of_none e hF) (sm7 _ _ (sm5' _ _ e)), by rw [← hG8, upd_same]; rfl, keep _ _ nOF (sm7 _ _ O5'), keep _ _ nlF (sm7 _ _ l5'), ?_⟩
          obtain ⟨gp, gd, e, hgp⟩ := g5'
          exact ⟨gp, gd, e, keep _ _ (gpF gp e) (sm7 _ _ hgp)⟩
        · rintro σ G5 ⟨y8, rfl, sm5', f5', O5', _⟩
          exact ⟨_, y8, rfl, sm5', f5', O5'⟩
      · rintro σ G2 ⟨x7, x8, rfl, sm', hf', hO⟩
        exact ⟨_, rfl, q G2 _ ⟨F, rfl, hF, hf', sm'⟩⟩
end
end V5

set_option maxHeartbeats 2000000
/-! Dicts with tuples for keys: set by a display. -/
namespace V5
open PySem PySem.Spec PyProof.Rows L2 K2
section
variable {X : Cx}
theorem set_tupKey {pins : List (Addr × Obj)} {σ : L2.St} {G : Hp} {s : Shared} {E : Value → Shared → Prop} {m c : Addr} {es : List (List Key × V)} {ks : List Key} {x : V} {r : Value} {Q : Unit → Shared → Prop} (room : X.A.units + 1 < cLine)
    (I : Inv X pins σ G s) (gm : G m = some (.dT es)) (gc : G c = some (.tup (ks.map kV))) (few : es.length < sizeLine) (rx : RelV x r)
    (then_ : ∀ s', Inv X pins σ (upd G m (.dT (putK es ks x))) s' → Q () s') : wpAny (model X.prog X.w) X.A (dictSet m (.ref c) r) Q E s := by
  obtain ⟨lz, nsm, xs, kt, isd⟩ := dt_of I.hok gm
  have lx : xs.length ≤ sizeLine := (Paired.length kt) ▸ lz
  refine wpAny_dictSet_heap (hsz := lx) (by show X.A.units < cLine; omega) (key_of I.hok gc) isd fun h2 isd2 but => then_ _ ?_
  obtain ⟨ob, arr, ep, o1, o2, o3, o4, _, o5⟩ := isd2
  have lp : (putK es ks x).length ≤ sizeLine := Nat.le_trans (length_putK es ks x) few
  refine d_write I (by rw [gm]; exact True.intro) but ⟨ob, o1⟩ ⟨lp, nsm, _, (kt.put ks gc rx).keeps fun b ys eb => ?_, ob, arr, ep, o1, o2, o3, o4, o5⟩
  exact (upd_ne (ne_of eb gm (fun z => nomatch z))).trans eb
/-- {k: v}, k a tuple of ints and texts -/
def spot (p : Addr) (Q : VK) (x y : V) (G : Hp) : Prop := ∃ (c : Addr) (ks : List Key), x = .ref c ∧ G c = some (.tup (ks.map kV)) ∧ G p = some (.dT []) ∧ Q (.ref p) (upd G p (.dT [(ks, y)]))
def spots (p : Addr) (Q : VK) : List (V × V) → Hp → Prop
  | [(x, y)], G => spot p Q x y G
  | _, _ => False
def tDispT1 (tk tv : TE) : TE := fun σ H Q => ∀ p, H p = none → tk σ (upd H p (.dT [])) fun x H1 => tv σ H1 fun y H2 => spot p Q x y H2
theorem pe_dispT1 {pos : PySem.Pos} {k v : Expr} {tk tv : TE} (room : X.A.units + 1 < cLine) (hk : PE X k tk) (hv : PE X v tv) : PE X (.Dict [some k] [v] pos) (tDispT1 tk tv) := by
  refine ⟨fun pins s σ H Q I q => ?_⟩
  have fresh := I.hok.fresh (Nat.le_refl s.heap.objs.size)
  have I1 := I.laid (a := s.heap.objs.size) (o := .dT []) (h' := s.heap.push { cls := .type "dict", data := .dict #[] }) (t' := s.toks) (fun _ _ e => Heap.get?_push_of_some _ e) (Nat.le_refl _) (dt_empty s.heap I.big)
  have n1 : (pairTrees [some k] [v] X.env pos).length = 1 := pairTrees_length _ _ _ _ rfl rfl
  rw [arm_eval_Dict, zip_pairTrees [some k] [v] X.env pos rfl rfl, dictDisplay_pairs _ (by intro z; rw [z] at n1; cases n1) (by rw [n1]; decide)]
  refine wpAny_bind (wpAny_standAt (wpAny_bind ?_))
  unfold subDict
  refine wpAny_bind (wpAny_alloc (wpAny_bind (wpAny_holding ?_)))
  rw [if_pos (by rw [n1]; decide)]
  refine wpAny_bind (thn ((pps_cons hk hv pps_nil).run pins _ σ _ (spots s.heap.objs.size Q) I1 (q _ fresh)) fun ws s2 ⟨ps, H2, I2, rel, h2⟩ => ?_)
  match ps, h2 with
  | [(x, y)], h2 =>
    obtain ⟨c, ks, rfl, hc, hp, q2⟩ := h2
    cases rel with
    | @cons _ w0 _ _ r0 r1 =>
      cases r1
      obtain ⟨w1, w2⟩ := w0
      obtain ⟨ra, rb⟩ := r0
      obtain rfl : w1 = Value.ref c := ra
      refine wpAny_holding (wpAny_bind ?_)
      rw [List.forIn_cons]
      refine wpAny_bind (wpAny_bind (set_tupKey room I2 hp hc (by decide) rb fun s3 I3 => wpAny_pure ?_))
      dsimp only
      rw [List.forIn_nil]
      exact wpAny_pure (wpAny_pure (wpAny_pure (wpAny_pure ⟨.ref s.heap.objs.size, _, I3, rfl, q2⟩)))
end
end V5

set_option maxHeartbeats 2000000
/-! The kinds of plain files' fields. -/
namespace V5
open PySem PySem.Spec PyProof.Rows L2 K2

theorem POwn.st {K : PySem.W.Frag} {H H' : Hp} {f : Str} {op od bp bd bl bnd ep ed lp ld : Addr} {o : Ow} {m : Mk} {li n : Nat} (s : St H H') (h : POwn K H f op od bp bd bl bnd ep ed lp ld o m li n) : POwn K H' f op od bp bd bl bnd ep ed lp ld o m li n :=
  ⟨s.at h.ow rfl, s.at h.b rfl, s.at h.l rfl, s.at h.nd rfl, s.at h.e rfl, s.at h.lit rfl⟩
theorem KN.ust {K : PySem.W.Frag} {Ho Ho' H H' : Hp} (so : St Ho Ho') (s : St H H') {f : Fi} {kd : Addr} : KN K Ho H f kd → KN K Ho' H' f kd := fun ⟨kf, h, a⟩ => ⟨kf, s.at h rfl, fun d hd => let ⟨v, e, r⟩ := a d hd; ⟨v, e, r.st so⟩⟩
theorem KNs.st {K : PySem.W.Frag} {H H' : Hp} (s : St H H') {KD : Addr} {fs : List Fi} : KNs K H KD fs → KNs K H' KD fs := fun ⟨kk, h, a⟩ => ⟨kk, s.at h rfl, fun f hf => let ⟨v, e, r⟩ := a f hf; ⟨v, e, r.ust s s⟩⟩
theorem DTX.st {K : PySem.W.Frag} {H H' : Hp} (s : St H H') {D : Addr} {fs : List Fi} {tvs : List V} (h : DTX K H D fs tvs) : DTX K H' D fs tvs :=
  ⟨s.at h.1 rfl, h.2.1.imp fun _ _ z => z.st s, h.2.2⟩
theorem SRC.st {K : PySem.W.Frag} {H H' : Hp} (s : St H H') {p : Addr} {fs : List Fi} {tvs : List V} : SRC K H p fs tvs → SRC K H' p fs tvs := fun ⟨dx, D, KD, LD, h, a, b⟩ => ⟨dx, D, KD, LD, s.at h rfl, a.st s, b.st s⟩

abbrev fKin (a b c : V) : List (Str × V) := [("sources", a), ("known", b), ("plain", c)]
def num : V := .str "number"
def AllNum (kvs : List (List Key × V)) : Prop := ∀ q ∈ kvs, q.2 = num
theorem AllNum.put {kvs : List (List Key × V)} (h : AllNum kvs) (k : List Key) : AllNum (putK kvs k num) := by
  unfold putK
  split
  · intro q hq
    obtain ⟨r, hr, rfl⟩ := List.mem_map.mp hq
    split
    · rfl
    · exact h r hr
  · intro q hq
    rcases List.mem_append.mp hq with hq | hq
    · exact h q hq
    · rw [List.mem_singleton] at hq
      rw [hq]
theorem AllNum.val {kvs : List (List Key × V)} (h : AllNum kvs) {k : List Key} {v : V} (e : valV kvs k = some v) : v = num := by
  unfold valV at e
  cases z : kvs.find? fun kv => decide (kv.1 = k) with
  | none =>
    rw [z] at e
    cases e
  | some q =>
    rw [z] at e
    cases e
    exact h q (List.mem_of_find?_eq_some z)
/-- the kinds at p, of the sources at sp; at most n are known -/
def KI (K : PySem.W.Frag) (H : Hp) (p sp : Addr) (n : Nat) : Prop := ∃ dx kk kl kvs pvs, H p = some (.ins (cKinds K) dx (fKin (.ref sp) (.ref kk) (.ref kl))) ∧ kk ≠ kl ∧ H kk = some (.dT kvs) ∧ kvs.length ≤ n ∧ AllNum kvs ∧ H kl = some (.dT pvs) ∧ pvs.length ≤ n
theorem KI.same {K : PySem.W.Frag} {H H' : Hp} (s : Same H H') {p sp : Addr} {n : Nat} : KI K H p sp n → KI K H' p sp n := fun ⟨dx, kk, kl, kvs, pvs, h1, nk, h2, h3, h4, h5, h6⟩ => ⟨dx, kk, kl, kvs, pvs, s _ _ h1, nk, s _ _ h2, h3, h4, s _ _ h5, h6⟩
theorem KI.more {K : PySem.W.Frag} {H : Hp} {p sp : Addr} {n m : Nat} (le : n ≤ m) : KI K H p sp n → KI K H p sp m := fun ⟨dx, kk, kl, kvs, pvs, h1, nk, h2, h3, h4, h5, h6⟩ => ⟨dx, kk, kl, kvs, pvs, h1, nk, h2, Nat.le_trans h3 le, h4, h5, Nat.le_trans h6 le⟩
abbrev key3 (f n x : Str) : List Key := [.inr f, .inr n, .inr x]

def spLk (K : PySem.W.Frag) : Sp := fun vs H Q _ => ∃ (lp ld : Addr) (li n : Nat), vs = [.ref lp] ∧ H lp = some (.ins (cLiteral K) ld (fLit (.int li) (.int n))) ∧ Q num H
def spTold (K : PySem.W.Frag) : Sp := fun vs H Q _ => ∃ (sv ov : V) (lp ld : Addr) (li n : Nat), vs = [sv, ov, .ref lp] ∧ H lp = some (.ins (cLiteral K) ld (fLit (.int li) (.int n))) ∧ Q num H
def spKt (K : PySem.W.Frag) : Sp := fun vs H Q _ => ∃ (sp : Addr) (fs : List Fi) (tvs : List V) (t : Fi) (o : Ow), vs = [.ref sp, .str t.f, .str o.m.n] ∧ SRC K H sp fs tvs ∧ t ∈ fs ∧ .ow o ∈ t.ds ∧ ∀ v, ROw K H t.f v o → Q v H
def spOa (K : PySem.W.Frag) : Sp := fun vs H Q _ => ∃ (sp : Addr) (fs : List Fi) (tvs : List V) (t : Fi) (o : Ow), vs = [.ref sp, .str t.f, .str o.m.n] ∧ SRC K H sp fs tvs ∧ t ∈ fs ∧ .ow o ∈ t.ds ∧ o.m.n ≠ "" ∧ ∀ v, ROw K H t.f v o → Q v H
section
variable {P : Program} {w : World} {K : PySem.W.Frag} {mg : Str → Option Value} {base : Heap}
theorem ok_lk (E : Env K mg) : FnOk P w K mg base CX0 1 (f_literal_kind K) (fd_literal_kind K) ["literal"] (spLk K) := by
  refine E.F_literal_kind.ok sc_literal_kind (fun vs H Q E h => ?_) (fun cdv A outer s H vs Q E1 hr h => ?_)
  · obtain ⟨lp, ld, li, n, rfl, _⟩ := h
    rfl
  · obtain ⟨lp, ld, li, n, rfl, hl, q⟩ := h
    refine ⟨_, pss_one (ps_ret (pe_ifExp (pt_val (pe_callB call_isi (by rfl) E.u_isinstance (by decide +kernel) (pa_cons (pe_fld (pv 0) rfl) (pa_cons (pe_bltn (v := .ty "int") (by rfl) E.u_int (by decide +kernel) rfl) pa_nil)))) pe_str pe_never)), ?_⟩
    exact ⟨_, rfl, lp, _, ld, _, _, rfl, hl, E.C_Literal.c, E.n_Literal_worth, rfl, _, _, _, _, true, rfl, .ty _, .base (.int _), kit_ty (by decide +kernel), _, rfl, iteT q⟩
theorem ok_told (E : Env K mg) : FnOk P w K mg base CX0 2 (f_Kinds_told_by K) (fd_Kinds_told_by K) ["self", "owner", "simple"] (spTold K) := by
  refine E.F_Kinds_told_by.ok sc_Kinds_told_by (fun vs H Q E h => ?_) (fun cdv A outer s H vs Q E1 hr h => ?_)
  · obtain ⟨sv, ov, lp, ld, li, n, rfl, _⟩ := h
    rfl
  · obtain ⟨sv, ov, lp, ld, li, n, rfl, hl, q⟩ := h
    have nd := sc_Kinds_told_by.nd
    have GL : FnOk P w K mg base CX0 1 (f_literal_kind K) (fd_literal_kind K) ["literal"] (spLk K) := ok_lk E
    refine ⟨_, pss_cons (ps_if (pt_val (pe_callB call_isi (by rfl) E.u_isinstance (by decide +kernel) (pa_cons (pv 2) (pa_cons (pe_glob (v := .ref (cLiteral K)) (by rfl) E.g_Literal rfl) pa_nil))))
          (pss_one (ps_ret (pe_call GL hr (by rfl) E.D_literal_kind.g E.D_literal_kind.k E.D_literal_kind.b .nil pass0 (pa_cons (pv 2) pa_nil)))) pss_nil)
      <| pss_cons ps_never <| pss_cons ps_never <| pss_one ps_never, ?_⟩
    exact ⟨_, rfl, _, _, _, _, true, rfl, .own _, E.ty 3 rfl E.C_Literal.c hl, kit_self, _, rfl, iteT ⟨_, rfl, lp, ld, li, n, rfl, hl, q⟩⟩
theorem ok_kt (E : Env K mg) : FnOk P w K mg base CX0 1 (f_Sources_known_template K) (fd_Sources_known_template K) ["self", "file", "name"] (spKt K) := by
  refine E.F_Sources_known_template.ok sc_Sources_known_template (fun vs H Q E h => ?_) (fun cdv A outer s H vs Q E1 hr h => ?_)
  · obtain ⟨sp, fs, tvs, t, o, rfl, _⟩ := h
    rfl
  · obtain ⟨sp, fs, tvs, t, o, rfl, ⟨dx, D, KD, LD, hsp, hD, kk, hKD, hk⟩, ht, ho, q⟩ := h
    have nd := sc_Sources_known_template.nd
    refine ⟨_, pss_cons (ps_set (i := 3) nd rfl (.inl rfl) (pe_dget1 (hu_of hr) (pe_dget (hu_of hr) (pe_fld (pv 0) rfl) (pv 1) (fun _ _ => rfl)) (pv 2) ⟨rfl, rfl, rfl, rfl⟩))
      <| pss_one (ps_ret (pe_ifExp (pt_val (pe_callB call_isi (by rfl) E.u_isinstance (by decide +kernel) (pa_cons (pv 3) (pa_cons (pe_glob (v := .ref (cOwner K)) (by rfl) E.g_Owner rfl) pa_nil)))) (pv 3) pe_never)), ?_⟩
    obtain ⟨kd, e1, kf, hkd, hkf⟩ := hk t ht
    obtain ⟨v, e2, r⟩ := hkf _ ho
    have r : ROw K H t.f v o := r
    have r2 := r
    obtain ⟨op, od, pv', bv, rfl, hop, _⟩ := r2
    refine ⟨_, rfl, sp, _, dx, _, _, rfl, hsp, E.C_Sources.c, E.n_Sources_known, rfl, _, rfl, KD, .ref kd, rfl, .inl ⟨kk, .inr t.f, .inl hKD, rfl, e1.symm⟩, kd, rfl, .inl ⟨kf, .inl hkd⟩, _, rfl, _, .inl ⟨kf, .inr o.m.n, .inl hkd, rfl, e2.symm⟩, ?_⟩
    exact ⟨_, rfl, _, _, _, _, true, rfl, .own _, E.ty 1 rfl E.C_Owner.c hop, kit_self, _, rfl, iteT ⟨_, rfl, q _ r⟩⟩
theorem ok_oa (E : Env K mg) : FnOk P w K mg base CX0 2 (f_Sources_owner_at K) (fd_Sources_owner_at K) ["self", "file", "name"] (spOa K) := by
  refine E.F_Sources_owner_at.ok sc_Sources_owner_at (fun vs H Q E h => ?_) (fun cdv A outer s H vs Q E1 hr h => ?_)
  · obtain ⟨sp, fs, tvs, t, o, rfl, _⟩ := h
    rfl
  · obtain ⟨sp, fs, tvs, t, o, rfl, S, ht, ho, hn, q⟩ := h
    have S2 := S
    obtain ⟨dx, D, KD, LD, hsp, ⟨hD, ra, hnd⟩, _⟩ := S
    have nd := sc_Sources_owner_at.nd
    have GT : FnOk P w K mg base CX0 1 (f_Sources_known_template K) (fd_Sources_known_template K) ["self", "file", "name"] (spKt K) := ok_kt E
    refine ⟨_, pss_cons (ps_set (i := 3) nd rfl (.inl rfl) (pe_dget (hu_of hr) (pe_fld (pv 0) rfl) (pv 1) (fun _ _ => rfl)))
      <| pss_cons (ps_if (pt_cmpR op_eq (pv 2) pe_str (nomark _)) (pss_one ps_never) pss_nil)
      <| pss_cons (ps_set (i := 4) nd rfl (.inl rfl) (pe_meth (pv 0) E.C_Sources.c E.M_Sources_known_template.m GT hr E.M_Sources_known_template.b .nil pass0 (pa_cons (pv 1) <| pa_cons (pv 2) pa_nil)))
      <| pss_one (ps_ret (pe_ifExp (PW.pt (pw_and (pt_cmpR op_notN (pv 4) pe_non (nomark _)) (pw_and1 (pt_cmpR op_eq (pe_fld (pv 4) rfl) (pv 1) (nomark _))))) (pv 4) pe_never)), ?_⟩
    obtain ⟨tv, e1, rt⟩ := dtk_at ra hnd t ht
    refine ⟨_, rfl, sp, _, dx, _, _, rfl, hsp, E.C_Sources.c, E.n_Sources_trees, rfl, _, rfl, D, tv, rfl, .inl ⟨_, .inr t.f, .inl hD, rfl, e1.symm⟩, ?_⟩
    refine ⟨_, rfl, rfl, _, rfl, ?_⟩
    rw [dec_str, decide_eq_false hn]
    refine iteF ?_
    refine ⟨_, rfl, sp, dx, _, rfl, hsp, rfl, _, rfl, _, rfl, sp, fs, tvs, t, o, rfl, S2, ht, ho, fun v r => ?_⟩
    have r2 := r
    obtain ⟨op, od, pv', bv, rfl, hop, _⟩ := r2
    refine ⟨_, rfl, rfl, _, rfl, iteT ⟨_, rfl, op, _, od, _, _, rfl, hop, E.C_Owner.c, E.n_Owner_file, rfl, _, rfl, rfl, _, rfl, ?_⟩⟩
    rw [dec_str, decide_eq_true rfl]
    exact iteT ⟨_, rfl, q _ r⟩
end
end V5

set_option maxHeartbeats 2000000
/-! The kinds are searched. -/
namespace V5
open PySem PySem.Spec PyProof.Rows L2 K2

theorem ROw.pownE {K : PySem.W.Frag} {H : Hp} {f : Str} {v : V} {o : Ow} (h : ROw K H f v o) (hpar : o.par = none) {m : Mk} {li n : Nat} (hes : o.b.es = [⟨m, .lit li n⟩]) : ∃ op od bp bd bl bnd ep ed lp ld, v = .ref op ∧ POwn K H f op od bp bd bl bnd ep ed lp ld o m li n := by
  obtain ⟨op, od, pv', bv, rfl, ho, rp, rb⟩ := h
  rw [hpar] at rp rb
  have rp : pv' = .non := rp
  subst rp
  have rb : RBo K H true bv o.b := rb
  obtain ⟨bp, bd, bl, bnd, evs, rfl, hb, hl, re, hn⟩ := rb
  rw [hes] at re hn
  cases re with
  | cons x r =>
    cases r
    obtain ⟨ep, ed, vv, rfl, he, rv⟩ := x
    obtain ⟨lp, ld, rfl, hlit⟩ := rv
    exact ⟨op, od, bp, bd, bl, bnd, ep, ed, lp, ld, rfl, ho, hb, hl, hn, he, hlit⟩
/-- the field x of the template o of the file t of the sources at sp -/
structure Fld (K : PySem.W.Frag) (H : Hp) (sp : Addr) (t : Fi) (o : Ow) (m : Mk) : Prop where
  src : ∃ fs tvs, SRC K H sp fs tvs ∧ t ∈ fs
  mem : .ow o ∈ t.ds
  par : o.par = none
  es : ∃ li n, o.b.es = [⟨m, .lit li n⟩]
  nm : o.m.n ≠ ""
theorem Fld.st {K : PySem.W.Frag} {H H' : Hp} (s : St H H') {sp : Addr} {t : Fi} {o : Ow} {m : Mk} (h : Fld K H sp t o m) : Fld K H' sp t o m :=
  ⟨let ⟨fs, tvs, a, b⟩ := h.src; ⟨fs, tvs, a.st s, b⟩, h.mem, h.par, h.es, h.nm⟩
abbrev keyOf (t : Fi) (o : Ow) (m : Mk) : List Key := key3 t.f o.m.n m.n
def RKy (H : Hp) (F : Addr) (t : Fi) (o : Ow) (m : Mk) : Prop := H F = some (.tup ((keyOf t o m).map kV))
def spCand (K : PySem.W.Frag) : Sp := fun vs H Q _ => ∃ (kp sp F : Addr) (n : Nat) (t : Fi) (o : Ow) (m : Mk), vs = [.ref kp, .ref F] ∧ KI K H kp sp n ∧ RKy H F t o m ∧ Fld K H sp t o m ∧ ∀ H' l, Same H H' → H l = none → H' l = some (.lst [num]) → Q (.ref l) H'
def spKeep (K : PySem.W.Frag) : Sp := fun vs H Q _ => ∃ (kp sp F T : Addr) (n : Nat) (t : Fi) (o : Ow) (m : Mk), vs = [.ref kp, .ref T, num] ∧ H T = some (.lst [.ref F]) ∧ KI K H kp sp n ∧ n ≤ 1000 ∧ RKy H F t o m ∧ ∀ H', St H H' → KI K H' kp sp (n + 1) → Q .non H'
section
variable {P : Program} {w : World} {K : PySem.W.Frag} {mg : Str → Option Value} {base : Heap}
theorem ok_cand (E : Env K mg) : FnOk P w K mg base CX0 3 (f_Kinds_candidates K) (fd_Kinds_candidates K) ["self", "field"] (spCand K) := by
  refine E.F_Kinds_candidates.ok sc_Kinds_candidates (fun vs H Q E h => ?_) (fun cdv A outer s H vs Q E1 hr h => ?_)
  · obtain ⟨kp, sp, F, n, t, o, m, rfl, _⟩ := h
    rfl
  · obtain ⟨kp, sp, F, n, t, o, m, rfl, ⟨kd, kk, kl, kvs, pvs, hk, _⟩, hF, hf, q⟩ := h
    have nd := sc_Kinds_candidates.nd
    have GO : FnOk P w K mg base CX0 2 (f_Sources_owner_at K) (fd_Sources_owner_at K) ["self", "file", "name"] (spOa K) := ok_oa E
    have GT : FnOk P w K mg base CX0 2 (f_Kinds_told_by K) (fd_Kinds_told_by K) ["self", "owner", "simple"] (spTold K) := ok_told E
    refine ⟨_, pss_cons (ps_asg (pv 1) (pg_tup rfl (pgs_cons (pg_name (i := 2) nd rfl (.inl rfl)) (pgs_cons (pg_name (i := 3) nd rfl (.inl rfl)) (pgs_cons (pg_name (i := 4) nd rfl (.inl rfl)) pgs_nil)))))
      <| pss_cons (ps_set (i := 5) nd rfl (.inr rfl) (pe_meth (pe_fld (pv 0) rfl) E.C_Sources.c E.M_Sources_owner_at.m GO hr E.M_Sources_owner_at.b .nil pass0 (pa_cons (pv 2) <| pa_cons (pv 3) pa_nil)))
      <| pss_cons (ps_set (i := 6) nd rfl (.inl rfl) (pe_fld (pe_dget (hu_of hr) (pe_fld (pe_fld (pv 5) rfl) rfl) (pv 4) (fun _ _ => rfl)) rfl))
      <| pss_cons (ps_set (i := 7) nd rfl (.inl rfl) (pe_ifExp (pt_val (pe_callB call_isi (by rfl) E.u_isinstance (by decide +kernel) (pa_cons (pv 6) (pa_cons (pe_glob (v := .ref (cChoice K)) (by rfl) E.g_Choice rfl) pa_nil)))) pe_never (pe_lst (pa_cons (pv 6) pa_nil))))
      <| pss_one (ps_ret (pe_lc (own := [("simple", 8)]) (g := gName 8) (tt := tYes) rfl nd (pi_list (pv 7)) (blkOk_by (N := ["self", "field", "file", "name", "part", "owner", "value", "simples", "simple"]) (sc := defScope s_Kinds_candidates) (by decide +kernel))
          (fun _ _ _ _ _ => pg_name (i := 8) nd rfl (Or.inl rfl)) (fun _ _ _ _ _ => pts_nil)
          (fun _ _ _ _ _ => pe_meth (pv 0) E.C_Kinds.c E.M_Kinds_told_by.m GT hr E.M_Kinds_told_by.b .nil pass0 (pa_cons (pv 5) <| pa_cons (pv 8) pa_nil)))), ?_⟩
    obtain ⟨⟨fs, tvs, S, ht⟩, hm, hpar, ⟨li, ln, hes⟩, hnm⟩ := hf
    obtain ⟨dx, D, KD, LD, hsp, _⟩ := id S
    refine ⟨_, rfl, F, _, rfl, SqT.of hF, rfl, ?_⟩
    refine ⟨_, _, rfl, _, _, rfl, _, _, rfl, rfl, _, rfl, kp, _, kd, _, _, rfl, hk, E.C_Kinds.c, E.n_Kinds_sources, rfl, sp, dx, _, rfl, hsp, rfl, _, rfl, _, rfl, sp, fs, tvs, t, o, rfl, S, ht, hm, hnm, fun v r => ?_⟩
    obtain ⟨op, od, bp, bd, bl, bnd, ep, ed, lp, ld, rfl, pw⟩ := r.pownE hpar hes
    refine ⟨_, rfl, op, _, od, _, _, rfl, pw.ow, E.C_Owner.c, E.n_Owner_body, rfl, bp, _, bd, _, _, rfl, pw.b, E.C_Body.c, E.n_Body_named, rfl, _, rfl, bnd, .ref ep, rfl, .inl ⟨_, .inr m.n, .inl pw.nd, rfl, (valV_pos (p := ((Sum.inr m.n : Key), V.ref ep)) rfl).symm⟩, ep, _, ed, _, _, rfl, pw.e, E.C_Entry.c, E.n_Entry_value, rfl, ?_⟩
    refine ⟨_, rfl, _, _, _, _, false, rfl, .own _, E.ty 3 rfl E.C_Literal.c pw.lit, E.kit 13 rfl, _, rfl, iteF ⟨_, rfl, by show 1 ≤ sizeLine; decide, fun S1 hS1 => ?_⟩⟩
    have sm1 : Same H (upd H S1 (.lst [.ref lp])) := same_new hS1
    have s1 : (upd H S1 (.lst [.ref lp])) S1 = some (.lst [.ref lp]) := upd_same
    generalize upd H S1 (.lst [.ref lp]) = H1 at sm1 s1 ⊢
    refine ⟨_, rfl, S1, rfl, ⟨_, SqL.of s1⟩, fun L hL => ?_⟩
    refine lc_it (walk_list (K := K) (a := S1) (xs := [.ref lp])) (fun i G => G = upd H1 L (.lst (List.replicate i num))) rfl (fun i G _ e => by rw [e]; exact SqL.of (same_new hL _ _ s1)) ?_ ?_
    · rintro i v G G' hi rfl ⟨rfl, hiv⟩
      have i0 : i = 0 := by
        have : i < 1 := hi
        omega
      subst i0
      cases hiv
      refine ⟨rfl, _, rfl, kp, kd, _, rfl, same_new hL _ _ (sm1 _ _ hk), rfl, _, rfl, _, rfl, .ref kp, .ref op, lp, ld, li, ln, rfl, same_new hL _ _ (sm1 _ _ pw.lit), _, upd_same, by decide, ?_⟩
      rw [upd_upd]
      rfl
    · rintro G rfl
      exact q _ L (fun b o e => same_new hL _ _ (sm1 _ _ e)) (fresh_of sm1 hL) upd_same
theorem ok_keep (E : Env K mg) : FnOk P w K mg base CX0 1 (f_Kinds_keep K) (fd_Kinds_keep K) ["self", "trail", "kind"] (spKeep K) := by
  refine E.F_Kinds_keep.ok sc_Kinds_keep (fun vs H Q E h => ?_) (fun cdv A outer s H vs Q E1 hr h => ?_)
  · obtain ⟨kp, sp, F, T, n, t, o, m, rfl, _⟩ := h
    rfl
  · obtain ⟨kp, sp, F, T, n, t, o, m, rfl, hT, ⟨kd, kk, kl, kvs, pvs, hk, nk, hkk, l1, an, hkl, l2⟩, hn, hF, q⟩ := h
    have nd := sc_Kinds_keep.nd
    refine ⟨_, pss_one (ps_for PassesOwn.never rfl (pi_list (pv 1)) (pg_name (i := 3) nd rfl (.inl rfl))
        (pss_cons (ps_dput (hu_of hr) (pe_fld (pv 0) rfl) (pv 3) (pv 2) rfl) (pss_one (ps_dput (hu_of hr) (pe_fld (pv 0) rfl) (pv 3) pe_bl rfl)))), ?_⟩
    have nF : ∀ {a : Addr} {x : HO}, H a = some x → x ≠ .tup ((keyOf t o m).map kV) → a ≠ F := by
      rintro a x e ne rfl
      rw [hF] at e
      cases e
      exact ne rfl
    have nT : ∀ {a : Addr} {x : HO}, H a = some x → x ≠ .lst [.ref F] → a ≠ T := by
      rintro a x e ne rfl
      rw [hT] at e
      cases e
      exact ne rfl
    have nkkF : kk ≠ F := nF hkk (fun z => nomatch z)
    have nklF : kl ≠ F := nF hkl (fun z => nomatch z)
    have nkkT : kk ≠ T := nT hkk (fun z => nomatch z)
    have nklT : kl ≠ T := nT hkl (fun z => nomatch z)
    have nkp : ∀ {a : Addr} {x : List (List Key × V)}, H a = some (.dT x) → a ≠ kp := by
      rintro a x e rfl
      rw [hk] at e
      cases e
    have st1 : St H (upd H kk (.dT (putK kvs (keyOf t o m) num))) := St.updP hkk rfl
    generalize hG1 : upd H kk (.dT (putK kvs (keyOf t o m) num)) = G1 at st1
    have kk1 : G1 kk = some (.dT (putK kvs (keyOf t o m) num)) := by rw [← hG1, upd_same]
    have kl1 : G1 kl = some (.dT pvs) := by rw [← hG1, upd_ne (Ne.symm nk)]; exact hkl
    have st2 : St G1 (upd G1 kl (.dT (putK pvs (keyOf t o m) (.bl true)))) := St.updP kl1 rfl
    generalize hG2 : upd G1 kl (.dT (putK pvs (keyOf t o m) (.bl true))) = G2 at st2
    have kk2 : G2 kk = some (.dT (putK kvs (keyOf t o m) num)) := by rw [← hG2, upd_ne nk]; exact kk1
    have kl2 : G2 kl = some (.dT (putK pvs (keyOf t o m) (.bl true))) := by rw [← hG2, upd_same]
    have st := st1.trans st2
    refine ⟨_, rfl, T, rfl, ⟨_, SqL.of hT⟩, ?_⟩
    refine for_it (walk_list (K := K) (a := T) (xs := [.ref F])) (fun i σ G => ∃ x3 : Option V, σ = [some (.ref kp), some (.ref T), some num, x3] ∧ ((i = 0 ∧ G = H) ∨ (i = 1 ∧ G = G2))) ⟨none, rfl, .inl ⟨rfl, rfl⟩⟩
      (fun i σ G _ ⟨_, _, c⟩ => by rcases c with ⟨_, e⟩ | ⟨_, e⟩ <;> rw [e]; exact SqL.of hT; exact SqL.of (st.at hT rfl)) ?_ ?_
    · rintro i v σ G G' hi ⟨x3, rfl, c⟩ ⟨rfl, hv⟩
      have i0 : i = 0 := by
        have : i < 1 := hi
        omega
      subst i0
      cases hv
      rcases c with ⟨_, rfl⟩ | ⟨z, _⟩
      · refine ⟨_, rfl, _, rfl, kp, _, kd, _, _, rfl, hk, E.C_Kinds.c, E.n_Kinds_known, rfl, _, rfl, kk, _, rfl, DPut.t hkk hF (small1000 (by omega)), ?_⟩
        rw [hG1]
        refine ⟨_, rfl, kp, _, kd, _, _, rfl, st1.at hk rfl, E.C_Kinds.c, E.n_Kinds_plain, rfl, _, rfl, kl, _, rfl, DPut.t kl1 (st1.at hF rfl) (small1000 (by omega)), ?_⟩
        rw [hG2]
        exact ⟨_, rfl, .inr ⟨rfl, rfl⟩⟩
      · omega
    · rintro σ G ⟨x3, rfl, c⟩
      rcases c with ⟨z, _⟩ | ⟨_, rfl⟩
      · cases z
      · have p1 := length_putK kvs (keyOf t o m) num
        have p2 := length_putK pvs (keyOf t o m) (.bl true)
        exact q _ st ⟨kd, kk, kl, _, _, st.at hk rfl, nk, kk2, by omega, an.put _, kl2, by omega⟩
end
end V5

set_option maxHeartbeats 2000000
/-! A field's kind. -/
namespace V5
open PySem PySem.Spec PyProof.Rows L2 K2

def spSearch (K : PySem.W.Frag) : Sp := fun vs H Q _ => ∃ (kp sp F : Addr) (n : Nat) (t : Fi) (o : Ow) (m : Mk), vs = [.ref kp, .ref F] ∧ KI K H kp sp n ∧ n ≤ 1000 ∧ RKy H F t o m ∧ Fld K H sp t o m ∧ ∀ H', St H H' → KI K H' kp sp (n + 1) → Q num H'
/-- the kind of the field that the entry at ep is -/
def spOfK (K : PySem.W.Frag) : Sp := fun vs H Q _ => ∃ (kp sp op od bp bd bl bnd ep ed lp ld : Addr) (n li ln : Nat) (t : Fi) (o : Ow) (m : Mk), vs = [.ref kp, .ref op, .ref ep] ∧ KI K H kp sp n ∧ n ≤ 500 ∧ POwn K H t.f op od bp bd bl bnd ep ed lp ld o m li ln ∧ Fld K H sp t o m ∧ ∀ H', St H H' → KI K H' kp sp (n + 2) → Q num H'
def spKinds (K : PySem.W.Frag) : Sp := fun vs H Q _ => ∃ (p dx sp : Addr), vs = [.ref p, .ref sp] ∧ H p = some (.ins (cKinds K) dx []) ∧ ∀ H', (∀ b, b ≠ p → ∀ o, H b = some o → H' b = some o) → KI K H' p sp 0 → Q .non H'
section
variable {P : Program} {w : World} {K : PySem.W.Frag} {mg : Str → Option Value} {base : Heap}
theorem ok_Kinds (E : Env K mg) : FnOk P w K mg base CX0 1 (f_Kinds___init__ K) (fd_Kinds___init__ K) ["self", "sources"] (spKinds K) := by
  refine E.F_Kinds___init__.ok sc_Kinds___init__ (fun vs H Q E h => ?_) (fun cdv A outer s H vs Q E1 hr h => ?_)
  · obtain ⟨p, dx, sp, rfl, _⟩ := h
    rfl
  · obtain ⟨p, dx, sp, rfl, hp, q⟩ := h
    refine ⟨_, pss_cons (ps_fld (pv 0) (pv 1) rfl) <| pss_cons (ps_fld (pv 0) pe_dnewT rfl) <| pss_one (ps_fld (pv 0) pe_dnewT rfl), ?_⟩
    refine ⟨_, rfl, _, rfl, p, _, dx, _, rfl, hp, E.C_Kinds.c, E.n_Kinds_sources, (by exact (by decide : 0 < 1000)), ?_⟩
    have k1 : ∀ b, b ≠ p → ∀ o, H b = some o → (upd H p (.ins (cKinds K) dx (putF "sources" (.ref sp) []))) b = some o := fun b ne o e => (upd_ne ne).trans e
    have p1 : (upd H p (.ins (cKinds K) dx (putF "sources" (.ref sp) []))) p = some (.ins (cKinds K) dx [("sources", .ref sp)]) := upd_same
    generalize upd H p (.ins (cKinds K) dx (putF "sources" (.ref sp) [])) = H1 at k1 p1 ⊢
    intro kk hkk
    have nk : kk ≠ p := (ne_of_none p1 hkk).symm
    refine ⟨_, rfl, p, _, dx, _, rfl, (same_new hkk) _ _ p1, E.C_Kinds.c, E.n_Kinds_known, (by exact (by decide : 1 < 1000)), ?_⟩
    generalize hG : upd (upd H1 kk (.dT [])) p _ = G
    have pG : G p = some (.ins (cKinds K) dx [("sources", .ref sp), ("known", .ref kk)]) := by rw [← hG, upd_same]; rfl
    have kG : G kk = some (.dT []) := by rw [← hG, upd_ne nk, upd_same]
    have k2 : ∀ b, b ≠ p → ∀ o, H b = some o → G b = some o := fun b ne o e => by
      rw [← hG, upd_ne ne]
      exact same_new hkk _ _ (k1 b ne o e)
    intro kl hkl
    have nl : kl ≠ p := (ne_of_none pG hkl).symm
    have nkl : kk ≠ kl := ne_of_none kG hkl
    refine ⟨_, rfl, p, _, dx, _, rfl, (same_new hkl) _ _ pG, E.C_Kinds.c, E.n_Kinds_plain, (by exact (by decide : 2 < 1000)), ?_⟩
    generalize hG3 : upd (upd G kl (.dT [])) p _ = G3
    have k3 : ∀ b, b ≠ p → ∀ o, G b = some o → G3 b = some o := fun b ne o e => by
      rw [← hG3, upd_ne ne]
      exact same_new hkl _ _ e
    refine q G3 (fun b ne o e => k3 b ne o (k2 b ne o e)) ⟨dx, kk, kl, [], [], by rw [← hG3, upd_same]; rfl, nkl, k3 _ nk _ kG, Nat.le_refl _, fun _ h => (nomatch h), by rw [← hG3, upd_ne nl, upd_same], Nat.le_refl _⟩
theorem ok_search (E : Env K mg) : FnOk P w K mg base CX0 4 (f_Kinds_search K) (fd_Kinds_search K) ["self", "start"] (spSearch K) := by
  refine E.F_Kinds_search.ok sc_Kinds_search (fun vs H Q E h => ?_) (fun cdv A outer s H vs Q E1 hr h => ?_)
  · obtain ⟨kp, sp, F, n, t, o, m, rfl, _⟩ := h
    rfl
  · obtain ⟨kp, sp, F, n, t, o, m, rfl, hk, hn, hF, hf, q⟩ := h
    have nd := sc_Kinds_search.nd
    have GC : FnOk P w K mg base CX0 3 (f_Kinds_candidates K) (fd_Kinds_candidates K) ["self", "field"] (spCand K) := ok_cand E
    have GK : FnOk P w K mg base CX0 1 (f_Kinds_keep K) (fd_Kinds_keep K) ["self", "trail", "kind"] (spKeep K) := ok_keep E
    refine ⟨_, pss_cons (ps_set (i := 2) nd rfl (.inl rfl) (pe_lst (pa_cons (pv 1) pa_nil)))
      <| pss_cons (ps_set (i := 3) nd rfl (.inl rfl) (pe_lst (pa_cons (pe_meth (pv 0) E.C_Kinds.c E.M_Kinds_candidates.m GC hr E.M_Kinds_candidates.b .nil pass0 (pa_cons (pv 1) pa_nil)) pa_nil)))
      <| pss_cons (ps_set (i := 4) nd rfl (.inl rfl) (pe_dispT1 (hu_of hr) (pv 1) pe_int))
      <| pss_cons (ps_set (i := 5) nd rfl (.inl rfl) pe_bl)
      <| pss_cons (ps_while PassesOwn.never (pt_val pe_bl)
          (pss_cons (ps_if (pt_not (pt_truth (pe_ix ix_list (pv 3) (pe_un un_neg pe_int) (fun _ _ => rfl)) (by intro _; rfl))) (pss_cons ps_never <| pss_cons ps_never <| pss_cons ps_never <| pss_cons ps_never <| pss_one ps_never) pss_nil)
            <| pss_cons (ps_set (i := 7) nd rfl (.inl rfl) (pe_bm0 PySem.F.plainAttrs_list PySem.F.slot_list_pop PySem.F.type_list_pop mt_pop (pe_ix ix_list (pv 3) (pe_un un_neg pe_int) (fun _ _ => rfl))))
            <| pss_cons (ps_if (PW.pt (pw_or (pt_val (pe_callB call_isi (by rfl) E.u_isinstance (by decide +kernel) (pa_cons (pv 7) (pa_cons (pe_bltn (v := .ty "str") (by rfl) E.u_str (by decide +kernel) rfl) pa_nil)))) (pw_or1 pt_never)))
                (pss_cons (ps_set (i := 8) nd rfl (.inl rfl) (pe_ifExp (pt_val (pe_callB call_isi (by rfl) E.u_isinstance (by decide +kernel) (pa_cons (pv 7) (pa_cons (pe_bltn (v := .ty "str") (by rfl) E.u_str (by decide +kernel) rfl) pa_nil)))) (pv 7) pe_never)) (pss_one ps_break)) pss_nil)
            <| pss_one ps_never))
      <| pss_cons (ps_if (pt_val (pv 5)) (pss_one (ps_expr (pe_meth (pv 0) E.C_Kinds.c E.M_Kinds_keep.m GK (hr.mono (by decide)) E.M_Kinds_keep.b .nil pass0 (pa_cons (pv 2) <| pa_cons (pv 8) pa_nil)))) pss_nil)
      <| pss_one (ps_ret (pv 8)), ?_⟩
    obtain ⟨kd, kk, kl, kvs, pvs, hk1, hkr⟩ := id hk
    refine ⟨_, rfl, by show 1 ≤ sizeLine; decide, fun T hT => ?_⟩
    have sm1 : Same H (upd H T (.lst [.ref F])) := same_new hT
    have t1 : (upd H T (.lst [.ref F])) T = some (.lst [.ref F]) := upd_same
    generalize upd H T (.lst [.ref F]) = H1 at sm1 t1 ⊢
    refine ⟨_, rfl, kp, kd, _, rfl, sm1 _ _ hk1, rfl, _, rfl, kp, sp, F, n, t, o, m, rfl, hk.same sm1, sm1 _ _ hF, hf.st (St.same sm1), fun H2 L sm2 nL hL => ?_⟩
    refine ⟨by show 1 ≤ sizeLine; decide, fun U hU => ?_⟩
    have sm3 : Same H2 (upd H2 U (.lst [.ref L])) := same_new hU
    have u3 : (upd H2 U (.lst [.ref L])) U = some (.lst [.ref L]) := upd_same
    generalize upd H2 U (.lst [.ref L]) = H3 at sm3 u3 ⊢
    intro B hB
    have sm4 : Same H3 (upd H3 B (.dT [])) := same_new hB
    have b4 : (upd H3 B (.dT [])) B = some (.dT []) := upd_same
    have sm04 : Same H (upd H3 B (.dT [])) := fun b o e => sm4 _ _ (sm3 _ _ (sm2 _ _ (sm1 _ _ e)))
    refine ⟨_, rfl, F, keyOf t o m, rfl, sm04 _ _ hF, b4, ?_⟩
    have st5 : St (upd H3 B (.dT [])) (upd (upd H3 B (.dT [])) B (.dT [(keyOf t o m, .int 0)])) := St.updP b4 rfl
    have sm05 : Same H (upd (upd H3 B (.dT [])) B (.dT [(keyOf t o m, .int 0)])) := fun b x e => by
      have nb : b ≠ B := ne_of_none (sm3 _ _ (sm2 _ _ (sm1 _ _ e))) hB
      rw [upd_ne nb]
      exact sm04 _ _ e
    have t5 := st5.at (sm4 _ _ (sm3 _ _ (sm2 _ _ t1))) rfl
    have u5 := st5.at (sm4 _ _ u3) rfl
    have l5 := st5.at (sm4 _ _ (sm3 _ _ hL)) rfl
    generalize upd (upd H3 B (.dT [])) B (.dT [(keyOf t o m, .int 0)]) = H5 at st5 sm05 t5 u5 l5 ⊢
    have nLH : H L = none := fresh_of sm1 nL
    refine ⟨fun k σ G => G = H5 ∧ σ = [some (.ref kp), some (.ref F), some (.ref T), some (.ref U), some (.ref B), some (.bl true), none, none, none], ⟨0, rfl, rfl⟩, ?_⟩
    rintro k σ G ⟨rfl, rfl⟩
    refine ⟨_, rfl, iteT ⟨fun _ _ => False, fun _ _ h => h.elim, ?_⟩⟩
    have last : atI [V.ref L] (-1) = some (.ref L) := atI_last [] _
    have nU : L ≠ U := (ne_of_none hL hU)
    refine ⟨_, rfl, 1, rfl, U, [.ref L], (-1), .ref L, rfl, rfl, SqL.of u5, last, true, .inl ⟨_, SqL.of l5, rfl⟩, iteF ?_⟩
    refine ⟨_, rfl, 1, rfl, U, [.ref L], (-1), .ref L, rfl, rfl, SqL.of u5, last, .inl ⟨rfl, _, SqL.of l5⟩, L, _, num, rfl, rfl, l5, rfl, ?_⟩
    generalize hG6 : upd G L _ = G6
    have sm06 : Same H G6 := fun b x e => by
      rw [← hG6, upd_ne (ne_of_none e nLH)]
      exact sm05 _ _ e
    have t6 : G6 T = some (.lst [.ref F]) := by
      rw [← hG6, upd_ne (ne_of_none t1 nL)]
      exact t5
    refine ⟨_, rfl, _, _, _, _, true, rfl, .ty _, .base (.str _), kit_ty (by decide +kernel), _, rfl, iteT ?_⟩
    refine ⟨_, rfl, _, _, _, _, true, rfl, .ty _, .base (.str _), kit_ty (by decide +kernel), _, rfl, iteT ⟨_, rfl, ?_⟩⟩
    refine ⟨_, rfl, _, rfl, iteT ?_⟩
    refine ⟨_, rfl, kp, kd, _, rfl, sm06 _ _ hk1, rfl, _, rfl, _, rfl, kp, sp, F, T, n, t, o, m, rfl, t6, hk.same sm06, hn, sm06 _ _ hF, fun H7 st7 hk7 => ?_⟩
    exact ⟨_, rfl, q _ ((St.same sm06).trans st7) hk7⟩
theorem ok_ofK (E : Env K mg) : FnOk P w K mg base CX0 5 (f_Kinds_of K) (fd_Kinds_of K) ["self", "base", "entry"] (spOfK K) := by
  refine E.F_Kinds_of.ok sc_Kinds_of (fun vs H Q E h => ?_) (fun cdv A outer s H vs Q E1 hr h => ?_)
  · obtain ⟨kp, sp, op, od, bp, bd, bl, bnd, ep, ed, lp, ld, n, li, ln, t, o, m, rfl, _⟩ := h
    rfl
  · obtain ⟨kp, sp, op, od, bp, bd, bl, bnd, ep, ed, lp, ld, n, li, ln, t, o, m, rfl, hk, hn, pw, hf, q⟩ := h
    have nd := sc_Kinds_of.nd
    have GS : FnOk P w K mg base CX0 4 (f_Kinds_search K) (fd_Kinds_search K) ["self", "start"] (spSearch K) := ok_search E
    refine ⟨_, pss_cons (ps_set (i := 3) nd rfl (.inl rfl) (pe_tup (pa_cons (pe_fld (pv 1) rfl) <| pa_cons (pe_fld (pv 1) rfl) <| pa_cons (pe_fld (pv 2) rfl) pa_nil)))
      <| pss_cons (ps_if (pt_cmp (pc_dnotin (hu_of hr) (pv 3) (pe_fld (pv 0) rfl)) rfl)
          (pss_one (ps_dput (hu_of hr) (pe_fld (pv 0) rfl) (pv 3) (pe_meth (pv 0) E.C_Kinds.c E.M_Kinds_search.m GS hr E.M_Kinds_search.b .nil pass0 (pa_cons (pv 3) pa_nil)) rfl)) pss_nil)
      <| pss_one (ps_ret (pe_dget (hu_of hr) (pe_fld (pv 0) rfl) (pv 3) (fun _ _ => rfl))), ?_⟩
    obtain ⟨kd, kk, kl, kvs, pvs, hk1, nk, hkk, l1, an, hkl, l2⟩ := id hk
    refine ⟨_, rfl, op, _, od, _, _, rfl, pw.ow, E.C_Owner.c, E.n_Owner_file, rfl, _, rfl, op, _, od, _, _, rfl, pw.ow, E.C_Owner.c, E.n_Owner_name, rfl, _, rfl, ep, _, ed, _, _, rfl, pw.e, E.C_Entry.c, E.n_Entry_name, rfl, ?_⟩
    refine ⟨by show 3 ≤ sizeLine; decide, fun F hF => ?_⟩
    have sm1 : Same H (upd H F (.tup [.str t.f, .str o.m.n, .str m.n])) := same_new hF
    have f1 : RKy (upd H F (.tup [.str t.f, .str o.m.n, .str m.n])) F t o m := upd_same
    generalize upd H F (.tup [.str t.f, .str o.m.n, .str m.n]) = H1 at sm1 f1 ⊢
    have hk0 := sm1 _ _ hk1
    refine ⟨_, rfl, _, rfl, kp, _, kd, _, _, rfl, hk0, E.C_Kinds.c, E.n_Kinds_known, rfl, kk, _, rfl, DGet.t (sm1 _ _ hkk) f1, _, rfl, ?_⟩
    cases hv : valV kvs (keyOf t o m) with
    | some v =>
      refine iteF ⟨_, rfl, kp, _, kd, _, _, rfl, hk0, E.C_Kinds.c, E.n_Kinds_known, rfl, ?_⟩
      have ev := an.val hv
      subst ev
      exact ⟨_, rfl, kk, num, rfl, hv ▸ DGet.t (sm1 _ _ hkk) f1, q _ (St.same sm1) ((hk.same sm1).more (by omega))⟩
    | none =>
      refine iteT ⟨_, rfl, kp, kd, _, rfl, hk0, rfl, _, rfl, kp, sp, F, n, t, o, m, rfl, hk.same sm1, by omega, f1, hf.st (St.same sm1), fun H2 st2 ⟨kd2, kk2, kl2, kvs2, pvs2, hk2, nk2, hkk2, m1, an2, hkl2, m2⟩ => ?_⟩
      have f2 : RKy H2 F t o m := st2.at f1 rfl
      refine ⟨_, rfl, kp, _, kd2, _, _, rfl, hk2, E.C_Kinds.c, E.n_Kinds_known, rfl, _, rfl, kk2, _, rfl, DPut.t hkk2 f2 (small1000 (by omega)), ?_⟩
      have st3 : St H2 (upd H2 kk2 (.dT (putK kvs2 (keyOf t o m) num))) := St.updP hkk2 rfl
      have kk3 : (upd H2 kk2 (.dT (putK kvs2 (keyOf t o m) num))) kk2 = some (.dT (putK kvs2 (keyOf t o m) num)) := upd_same
      have kl3 : (upd H2 kk2 (.dT (putK kvs2 (keyOf t o m) num))) kl2 = some (.dT pvs2) := by rw [upd_ne (Ne.symm nk2)]; exact hkl2
      generalize upd H2 kk2 (.dT (putK kvs2 (keyOf t o m) num)) = H3 at st3 kk3 kl3 ⊢
      have p1 := length_putK kvs2 (keyOf t o m) num
      have g3 : valV (putK kvs2 (keyOf t o m) num) (keyOf t o m) = some num := by rw [valV_put, if_pos rfl]
      refine ⟨_, rfl, kp, _, kd2, _, _, rfl, st3.at hk2 rfl, E.C_Kinds.c, E.n_Kinds_known, rfl, _, rfl, kk2, num, rfl, g3 ▸ DGet.t kk3 (st3.at f2 rfl), ?_⟩
      exact q _ ((St.same sm1).trans (st2.trans st3)) ⟨kd2, kk2, kl2, _, _, st3.at hk2 rfl, nk2, kk3, by omega, an2.put _, kl3, by omega⟩
end
end V5

set_option maxHeartbeats 2000000
/-! Second names of defs. -/
namespace V5
open PySem PySem.Spec PyProof.Rows L2
section
variable {K : PySem.W.Frag} {mg : Str → Option Value}
theorem Env.D_given_faults_kinds (E : Env K mg) : DOk K mg "given_faults_kinds" (f_given_faults K) (fd_given_faults K) ["kinds", "owner", "given"] :=
  ⟨(E.glo 290 "given_faults_kinds" rfl).trans (by rw [show He.ga K "given_faults_kinds" = He.ga K "given_faults" from of_decide_eq_true (ex_at E.more 37 rfl)]; rfl), E.D_given_faults.k, E.D_given_faults.b⟩
theorem Env.D_where_faults_kinds (E : Env K mg) : DOk K mg "where_faults_kinds" (f_where_faults K) (fd_where_faults K) ["kinds", "owner", "loop"] :=
  ⟨(E.glo 291 "where_faults_kinds" rfl).trans (by rw [show He.ga K "where_faults_kinds" = He.ga K "where_faults" from of_decide_eq_true (ex_at E.more 38 rfl)]; rfl), E.D_where_faults.k, E.D_where_faults.b⟩
theorem Env.kitN (E : Env K mg) {T : String} {y : Str} {b : Bool} (i : Nat) (h : (fxs ++ fxs2)[i]? = some (.kitN T y b)) : PySem.W.kitOne K (.type T) (.ref (He.ga K y)) = some b := of_decide_eq_true (ex_at E.more i h)
end
end V5

set_option maxHeartbeats 2000000
/-! The kinds of a file's values. -/
namespace V5
open PySem PySem.Spec PyProof.Rows L2 K2

/-- a new empty list; dicts with tuples for keys may have changed -/
def OutS (H H' : Hp) (v : V) : Prop := ∃ l, v = .ref l ∧ H l = none ∧ H' l = some (.lst []) ∧ St H H'
def spField (K : PySem.W.Frag) : Sp := fun vs H Q _ => ∃ (gv : V) (f : Str) (op od bp bd bl bnd ep ed lp ld : Addr) (o : Ow) (m : Mk) (li n : Nat), vs = [gv] ∧ RGi K H gv (.ref ep) (.ref op) ∧ POwn K H f op od bp bd bl bnd ep ed lp ld o m li n ∧ Q (.ref ep) H
def spSimple (K : PySem.W.Frag) : Sp := fun vs H Q _ => ∃ (kv ov lv : V) (lp ld : Addr) (li n : Nat), vs = [kv, ov, lv, .ref lp, num] ∧ H lp = some (.ins (cLiteral K) ld (fLit (.int li) (.int n))) ∧ ∀ H' v, Out H H' v [] → Q v H'
def spGfk (K : PySem.W.Frag) : Sp := fun vs H Q _ => ∃ (kp sp : Addr) (gv : V) (op od bp bd bl bnd ep ed lp ld : Addr) (c li n : Nat) (t : Fi) (o : Ow) (m : Mk), vs = [.ref kp, .ref op, gv] ∧ RGi K H gv (.ref ep) (.ref op) ∧ POwn K H t.f op od bp bd bl bnd ep ed lp ld o m li n ∧ KI K H kp sp c ∧ c ≤ 500 ∧ Fld K H sp t o m ∧
  ∀ H' v, OutS H H' v → KI K H' kp sp (c + 2) → Q v H'
section
variable {P : Program} {w : World} {K : PySem.W.Frag} {mg : Str → Option Value} {base : Heap}
theorem ok_field (E : Env K mg) : FnOk P w K mg base CX0 1 (f_Given_field K) (fd_Given_field K) ["self"] (spField K) := by
  refine E.F_Given_field.ok sc_Given_field (fun vs H Q E h => ?_) (fun cdv A outer s H vs Q E1 hr h => ?_)
  · obtain ⟨gv, f, op, od, bp, bd, bl, bnd, ep, ed, lp, ld, o, m, li, n, rfl, _⟩ := h
    rfl
  · obtain ⟨gv, f, op, od, bp, bd, bl, bnd, ep, ed, lp, ld, o, m, li, n, rfl, ⟨gp, gd, rfl, hg⟩, pw, q⟩ := h
    refine ⟨_, pss_one (ps_ret (pe_dget1 (hu_of hr) (pe_fld (pe_fld (pe_fld (pv 0) rfl) rfl) rfl) (pe_fld (pe_fld (pv 0) rfl) rfl) ⟨rfl, rfl, rfl, rfl⟩)), ?_⟩
    refine ⟨_, rfl, gp, _, gd, _, _, rfl, hg, E.C_Given.c, E.n_Given_base, rfl, op, _, od, _, _, rfl, pw.ow, E.C_Owner.c, E.n_Owner_body, rfl, bp, _, bd, _, _, rfl, pw.b, E.C_Body.c, E.n_Body_named, rfl, bnd, rfl, .inl ⟨_, .inl pw.nd⟩, ?_⟩
    exact ⟨_, rfl, gp, _, gd, _, _, rfl, hg, E.C_Given.c, E.n_Given_entry, rfl, ep, _, ed, _, _, rfl, pw.e, E.C_Entry.c, E.n_Entry_name, rfl, _, .inl ⟨_, .inr m.n, .inl pw.nd, rfl, (valV_pos (p := ((Sum.inr m.n : Key), V.ref ep)) rfl).symm⟩, q⟩
theorem ok_simple (E : Env K mg) : FnOk P w K mg base CX0 2 (f_simple_faults K) (fd_simple_faults K) ["kinds", "owner", "loop", "value", "needed"] (spSimple K) := by
  refine E.F_simple_faults.ok sc_simple_faults (fun vs H Q E h => ?_) (fun cdv A outer s H vs Q E1 hr h => ?_)
  · obtain ⟨kv, ov, lv, lp, ld, li, n, rfl, _⟩ := h
    rfl
  · obtain ⟨kv, ov, lv, lp, ld, li, n, rfl, hl, q⟩ := h
    have nd := sc_simple_faults.nd
    have GL : FnOk P w K mg base CX0 1 (f_literal_kind K) (fd_literal_kind K) ["literal"] (spLk K) := ok_lk E
    refine ⟨_, pss_cons (ps_if (pt_val (pe_callB call_isi (by rfl) E.u_isinstance (by decide +kernel) (pa_cons (pv 3) (pa_cons (pe_glob (v := .ref (cLiteral K)) (by rfl) E.g_Literal rfl) pa_nil))))
          (pss_one (ps_set (i := 5) nd rfl (.inl rfl) (pe_lst (pa_cons (pe_call GL hr (by rfl) E.D_literal_kind.g E.D_literal_kind.k E.D_literal_kind.b .nil pass0 (pa_cons (pv 3) pa_nil)) pa_nil)))) (pss_cons ps_never <| pss_one ps_never))
      <| pss_one (ps_ret (pe_ifExp (pt_val (pe_callB (cr_all rfl) (by rfl) E.u_all (by decide +kernel) (pa_cons
          (pe_lc (own := [("kind", 7)]) (g := gName 7) (tt := tYes) rfl nd (pi_list (pv 5)) (blkOk_by (N := ["kinds", "owner", "loop", "value", "needed", "found", "path", "kind"]) (sc := defScope s_simple_faults) (by decide +kernel))
            (fun _ _ _ _ _ => pg_name (i := 7) nd rfl (Or.inl rfl)) (fun _ _ _ _ _ => pts_nil) (fun _ _ _ _ _ => pe_cmpR op_eq (pv 7) (pv 4) (nomark _))) pa_nil))) (pe_lst pa_nil) pe_never)), ?_⟩
    refine ⟨_, rfl, _, _, _, _, true, rfl, .own _, E.ty 3 rfl E.C_Literal.c hl, kit_self, _, rfl, iteT ?_⟩
    refine ⟨_, rfl, lp, ld, li, n, rfl, hl, by show 1 ≤ sizeLine; decide, fun F hF => ?_⟩
    have sm1 : Same H (upd H F (.lst [num])) := same_new hF
    have f1 : (upd H F (.lst [num])) F = some (.lst [num]) := upd_same
    generalize upd H F (.lst [num]) = H1 at sm1 f1 ⊢
    refine ⟨_, rfl, F, rfl, ⟨_, SqL.of f1⟩, fun L hL => ?_⟩
    refine lc_it (walk_list (K := K) (a := F) (xs := [num])) (fun i G => G = upd H1 L (.lst ((List.replicate i true).map V.bl))) rfl (fun i G _ e => by rw [e]; exact SqL.of (same_new hL _ _ f1)) ?_ ?_
    · rintro i v G G' hi rfl ⟨rfl, hiv⟩
      have i0 : i = 0 := by
        have : i < 1 := hi
        omega
      subst i0
      cases hiv
      refine ⟨rfl, _, rfl, _, rfl, rfl, _, upd_same, by decide, ?_⟩
      rw [upd_upd]
      rfl
    · rintro G rfl
      have sm2 : Same H (upd H1 L (.lst ((List.replicate [num].length true).map V.bl))) := fun b o e => same_new hL _ _ (sm1 _ _ e)
      refine ⟨L, [true], rfl, SqL.of upd_same, _, rfl, iteT ⟨by decide, fun R hR => ?_⟩⟩
      exact q _ _ ⟨R, rfl, fresh_of sm2 hR, upd_same, fun b o e => same_new hR _ _ (sm2 _ _ e)⟩
theorem ok_gfk (E : Env K mg) : FnOk P w K mg base CX0 6 (f_given_faults K) (fd_given_faults K) ["kinds", "owner", "given"] (spGfk K) := by
  refine E.F_given_faults.ok sc_given_faults (fun vs H Q E h => ?_) (fun cdv A outer s H vs Q E1 hr h => ?_)
  · obtain ⟨kp, sp, gv, op, od, bp, bd, bl, bnd, ep, ed, lp, ld, c, li, n, t, o, m, rfl, _⟩ := h
    rfl
  · obtain ⟨kp, sp, gv, op, od, bp, bd, bl, bnd, ep, ed, lp, ld, c, li, n, t, o, m, rfl, ⟨gp, gd, rfl, hg⟩, pw, hk, hc, hf, q⟩ := h
    have nd := sc_given_faults.nd
    have GF : FnOk P w K mg base CX0 1 (f_Given_field K) (fd_Given_field K) ["self"] (spField K) := ok_field E
    have GO : FnOk P w K mg base CX0 5 (f_Kinds_of K) (fd_Kinds_of K) ["self", "base", "entry"] (spOfK K) := ok_ofK E
    have GS : FnOk P w K mg base CX0 2 (f_simple_faults K) (fd_simple_faults K) ["kinds", "owner", "loop", "value", "needed"] (spSimple K) := ok_simple E
    refine ⟨_, pss_cons (ps_set (i := 3) nd rfl (.inl rfl) (pe_fld (pe_fld (pv 2) rfl) rfl))
      <| pss_cons (ps_if (pt_val (pe_callB call_isi (by rfl) E.u_isinstance (by decide +kernel) (pa_cons (pv 3) (pa_cons (pe_glob (v := .ref (cLoop K)) (by rfl) E.g_Loop rfl) pa_nil)))) (pss_one ps_never) pss_nil)
      <| pss_cons (ps_if (pt_val (pe_callB call_isiT (by rfl) E.u_isinstance (by decide +kernel) (pa_cons (pv 3) (pa_cons (pe_tup (pa_cons (pe_glob (v := .ref (cRecord K)) (by rfl) E.g_Record rfl) (pa_cons (pe_glob (v := .ref (cBody K)) (by rfl) E.g_Body rfl) pa_nil))) pa_nil)))) (pss_one ps_never) pss_nil)
      <| pss_cons (ps_set (i := 4) nd rfl (.inl rfl) (pe_meth (pv 0) E.C_Kinds.c E.M_Kinds_of.m GO hr E.M_Kinds_of.b .nil pass0 (pa_cons (pe_fld (pv 2) rfl) <| pa_cons (pe_meth0 (pv 2) E.C_Given.c E.M_Given_field.m GF (hr.mono (by decide)) E.M_Given_field.b .nil pass0) pa_nil)))
      <| pss_cons (ps_if (pt_not (pt_val (pe_callB call_isi (by rfl) E.u_isinstance (by decide +kernel) (pa_cons (pv 3) (pa_cons (pe_glob (v := .ref (cChoice K)) (by rfl) E.g_Choice rfl) pa_nil)))))
          (pss_one (ps_ret (pe_call GS (hr.mono (by decide)) (by rfl) E.D_simple_faults.g E.D_simple_faults.k E.D_simple_faults.b .nil pass0 (pa_cons (pv 0) <| pa_cons (pv 1) <| pa_cons (pe_fld (pv 2) rfl) <| pa_cons (pv 3) <| pa_cons (pv 4) pa_nil)))) pss_nil)
      <| pss_cons ps_never <| pss_cons ps_never <| pss_cons ps_never <| pss_one ps_never, ?_⟩
    refine ⟨_, rfl, gp, _, gd, _, _, rfl, hg, E.C_Given.c, E.n_Given_entry, rfl, ep, _, ed, _, _, rfl, pw.e, E.C_Entry.c, E.n_Entry_value, rfl, ?_⟩
    refine ⟨_, rfl, _, _, _, _, false, rfl, .own _, E.ty 3 rfl E.C_Literal.c pw.lit, E.kit 11 rfl, _, rfl, iteF ?_⟩
    refine ⟨_, rfl, by show 2 ≤ sizeLine; decide, fun tp htp => ?_⟩
    have sm1 : Same H (upd H tp (.tup [.ref (cRecord K), .ref (cBody K)])) := same_new htp
    refine ⟨_, tp, _, _, _, false, rfl, upd_same, .cons (.own _) (.cons (.own _) .nil), E.ty 3 rfl E.C_Literal.c (sm1 _ _ pw.lit), any2 (E.kit 10 rfl) (E.kit 12 rfl), _, rfl, iteF ?_⟩
    generalize upd H tp (.tup [.ref (cRecord K), .ref (cBody K)]) = H1 at sm1 ⊢
    have pw1 := pw.same sm1
    obtain ⟨kd, kk, kl, kvs, pvs, hk1, _⟩ := id hk
    refine ⟨_, rfl, kp, kd, _, rfl, sm1 _ _ hk1, rfl, _, rfl, gp, _, gd, _, _, rfl, sm1 _ _ hg, E.C_Given.c, E.n_Given_base, rfl, _, rfl, gp, gd, _, rfl, sm1 _ _ hg, rfl, .ref gp, t.f, op, od, bp, bd, bl, bnd, ep, ed, lp, ld, o, m, li, n, rfl, ⟨gp, gd, rfl, sm1 _ _ hg⟩, pw1, ?_⟩
    refine ⟨kp, sp, op, od, bp, bd, bl, bnd, ep, ed, lp, ld, c, li, n, t, o, m, rfl, hk.same sm1, hc, pw1, hf.st (St.same sm1), fun H2 st2 hk2 => ?_⟩
    have pw2 := pw1.st st2
    refine ⟨_, rfl, _, _, _, _, false, rfl, .own _, E.ty 3 rfl E.C_Literal.c pw2.lit, E.kit 13 rfl, _, rfl, iteT ?_⟩
    refine ⟨_, rfl, _, rfl, _, rfl, gp, _, gd, _, _, rfl, st2.at (sm1 _ _ hg) rfl, E.C_Given.c, E.n_Given_loop, rfl, _, rfl, _, rfl, .ref kp, .ref op, .non, lp, ld, li, n, rfl, pw2.lit, fun H3 v ⟨l, ev, nl, hl, sm3⟩ => ?_⟩
    have st := (St.same sm1).trans (st2.trans (St.same sm3))
    exact q H3 v ⟨l, ev, ((St.same sm1).trans st2).nn nl, hl, st⟩ (hk2.same sm3)
end
end V5

set_option maxHeartbeats 2000000
/-! The kinds of plain files. -/
namespace V5
open PySem PySem.Spec PyProof.Rows L2 K2

theorem RGi.st {K : PySem.W.Frag} {H H' : Hp} (s : St H H') {gv ev ov : V} : RGi K H gv ev ov → RGi K H' gv ev ov := fun ⟨p, dx, e, h⟩ => ⟨p, dx, e, s.at h rfl⟩
def spKf (K : PySem.W.Frag) : Sp := fun vs H Q _ => ∃ (sp kp : Addr) (tv : V) (t : Fi) (c : Nat), vs = [.ref sp, .ref kp, tv] ∧ RFi K H tv t ∧ t.ds.length ≤ 1000 ∧ (∀ d ∈ t.ds, PlainD d) ∧ (∃ fs tvs, SRC K H sp fs tvs ∧ t ∈ fs) ∧ (∀ d ∈ t.ds, d.m.n ≠ "") ∧
  KI K H kp sp c ∧ c + 2 * (owns t.ds).length ≤ 500 ∧ ∀ H' v, OutS H H' v → KI K H' kp sp (c + 2 * (owns t.ds).length) → Q v H'
section
variable {P : Program} {w : World} {K : PySem.W.Frag} {mg : Str → Option Value} {base : Heap}
theorem ok_kf (E : Env K mg) : FnOk P w K mg base CX0 7 (f_kind_faults K) (fd_kind_faults K) ["sources", "kinds", "tree"] (spKf K) := by
  refine E.F_kind_faults.ok sc_kind_faults (fun vs H Q E h => ?_) (fun cdv A outer s H vs Q E1 hr h => ?_)
  · obtain ⟨sp, kp, tv, t, c, rfl, _⟩ := h
    rfl
  · obtain ⟨sp, kp, tv, t, c, rfl, ht, dl, hpl, ⟨fs, tvs, S0, htf⟩, hnm, hk, hc, q⟩ := h
    have nd := sc_kind_faults.nd
    have GS : FnOk P w K mg base CX0 1 (f_FileTree_stocks K) (fd_FileTree_stocks K) ["self"] (spStocks K) := ok_stocks E
    have GO : FnOk P w K mg base CX0 1 (f_FileTree_owners K) (fd_FileTree_owners K) ["self"] (spOwners K) := ok_owners E
    have GG : FnOk P w K mg base CX0 3 (f_givens K) (fd_givens K) ["sources", "owner"] (spGivens K) := ok_givens E
    have GF : FnOk P w K mg base CX0 6 (f_given_faults K) (fd_given_faults K) ["kinds", "owner", "given"] (spGfk K) := ok_gfk E
    have Ct := E.C_FileTree.c
    refine ⟨_, pss_cons (ps_set (i := 3) nd rfl (.inl rfl) (pe_lst pa_nil))
      <| pss_cons (ps_for PassesOwn.never rfl (pi_list (pe_meth0 (pv 2) Ct E.M_FileTree_stocks.m GS (hr.mono (by decide)) E.M_FileTree_stocks.b .nil pass0)) (pg_name (i := 4) nd rfl (.inl rfl))
          (pss_one (ps_for PassesOwn.never rfl (pi_list (pe_fld (pv 4) rfl)) (pg_name (i := 5) nd rfl (.inl rfl)) (pss_one ps_never))))
      <| pss_cons (ps_for PassesOwn.never rfl (pi_list (pe_meth0 (pv 2) Ct E.M_FileTree_owners.m GO (hr.mono (by decide)) E.M_FileTree_owners.b .nil pass0)) (pg_name (i := 6) nd rfl (.inl rfl))
          (pss_one (ps_for PassesOwn.never rfl (pi_list (pe_call GG (hr.mono (by decide)) (by rfl) E.D_givens.g E.D_givens.k E.D_givens.b .nil pass0 (pa_cons (pv 0) <| pa_cons (pv 6) pa_nil))) (pg_name (i := 7) nd rfl (.inl rfl))
            (pss_one (ps_aug (i := 3) nd rfl (.inl rfl) (pe_call GF hr (by rfl) E.D_given_faults_kinds.g E.D_given_faults_kinds.k E.D_given_faults_kinds.b .nil pass0 (pa_cons (pv 1) <| pa_cons (pv 6) <| pa_cons (pv 7) pa_nil)) iop_ext)))))
      <| pss_one (ps_ret (pv 3)), ?_⟩
    obtain ⟨p, dx, pli, pld, ivs, dvs, rfl, hp, hli, ri, hld, rd⟩ := ht.tree
    obtain ⟨sd, sD, sKD, sLD, hsp, _⟩ := id S0
    refine ⟨by decide, fun F hF => ?_⟩
    have sm1 : Same H (upd H F (.lst [])) := same_new hF
    have f1 : (upd H F (.lst [])) F = some (.lst []) := upd_same
    generalize upd H F (.lst []) = H1 at sm1 f1 ⊢
    refine ⟨_, rfl, p, dx, _, rfl, sm1 _ _ hp, rfl, H, .ref p, t, rfl, sm1, ht, dl, fun H4 v4 ⟨S, xs, ev4, n4, e4, rs, sm4⟩ => ?_⟩
    subst ev4
    have sm14 : Same H H4 := fun b o e => sm4 _ _ (sm1 _ _ e)
    refine ⟨S, rfl, ⟨_, SqL.of e4⟩, ?_⟩
    refine for_it (walk_list (K := K) (a := S) (xs := xs)) (fun i σ G => ∃ x4 : Option V, σ = [some (.ref sp), some (.ref kp), some (.ref p), some (.ref F), x4, none, none, none] ∧ Same H G ∧ G F = some (.lst []) ∧ G S = some (.lst xs)) ⟨none, rfl, sm14, sm4 _ _ f1, e4⟩ (fun i σ G _ ⟨_, _, _, _, s⟩ => SqL.of s) ?_ ?_
    · rintro i v σ G G' hi ⟨x4, rfl, sm, hf, hS⟩ ⟨rfl, hv⟩
      obtain ⟨sk, hs, rsk⟩ := rs.getL hv
      obtain ⟨kp', kd', lc, lg, cvs, rfl, hkp, hlc, rc, hlg⟩ := id rsk
      refine ⟨_, rfl, kp', _, kd', _, _, rfl, sm _ _ hkp, E.C_Stock.c, E.n_Stock_goods, rfl, lg, rfl, ⟨_, SqL.of (sm _ _ hlg)⟩, ?_⟩
      refine for_it (walk_list (K := K) (a := lg) (xs := [])) (fun i σ G2 => G2 = G' ∧ σ = [some (.ref sp), some (.ref kp), some (.ref p), some (.ref F), some (.ref kp'), none, none, none]) ⟨rfl, rfl⟩ (fun i σ G2 _ ⟨e, _⟩ => by rw [e]; exact SqL.of (sm _ _ hlg)) (fun i v σ G G' hi => absurd hi (by simp)) ?_
      rintro σ G ⟨rfl, rfl⟩
      exact ⟨_, rfl, sm, hf, hS⟩
    · rintro σ G ⟨x4, rfl, sm, hf, hS⟩
      refine ⟨_, rfl, p, dx, _, rfl, sm _ _ hp, rfl, H, .ref p, t, rfl, sm, ht, dl, fun H5 v5 ⟨O, ys, ev5, n5, e5, ro, sm5⟩ => ?_⟩
      subst ev5
      have sm55 : Same H H5 := fun b o e => sm5 _ _ (sm _ _ e)
      have nOF : O ≠ F := (ne_of_none hf n5).symm
      have rol : ys.length = (owns t.ds).length := ro.len
      refine ⟨O, rfl, ⟨_, SqL.of e5⟩, ?_⟩
      refine for_it (walk_list (K := K) (a := O) (xs := ys)) (fun i σ G => ∃ x6 x7 : Option V, σ = [some (.ref sp), some (.ref kp), some (.ref p), some (.ref F), x4, none, x6, x7] ∧ St H G ∧ G F = some (.lst []) ∧ G O = some (.lst ys) ∧ KI K G kp sp (c + 2 * i)) ⟨none, none, rfl, St.same sm55, sm5 _ _ hf, e5, hk.same sm55⟩ (fun i σ G _ ⟨_, _, _, _, _, s, _⟩ => SqL.of s) ?_ ?_
      · rintro i v σ G2 G3 hi ⟨x6, x7, rfl, st', hf', hO, hki⟩ ⟨rfl, hv⟩
        have il : i < (owns t.ds).length := by rw [← rol]; exact hi
        obtain ⟨ow, hs, r⟩ := ro.getL hv
        have hmem := mem_owns (List.mem_of_getElem? hs)
        obtain ⟨hpar, m, li, n, hes⟩ := hpl _ hmem
        obtain ⟨op, od, bp, bd, bl, bnd, ep, ed, lp, ld, rfl, pw⟩ := r.pownE hpar hes
        have pwG := pw.st st'
        refine ⟨_, rfl, _, rfl, sp, sd, _, t.f, op, od, bp, bd, bl, bnd, ep, ed, lp, ld, ow, m, li, n, rfl, st'.at hsp rfl, rfl, pwG, fun G4 l gv sm4' nl hl hg => ?_⟩
        have nlF : l ≠ F := (ne_of_none hf' nl).symm
        have st44 : St H G4 := st'.trans (St.same sm4')
        refine ⟨l, rfl, ⟨_, SqL.of hl⟩, ?_⟩
        refine for_it (walk_list (K := K) (a := l) (xs := [gv])) (fun j σ G => ∃ x7 : Option V, σ = [some (.ref sp), some (.ref kp), some (.ref p), some (.ref F), x4, none, some (.ref op), x7] ∧ St H G ∧ G F = some (.lst []) ∧ G O = some (.lst ys) ∧ G l = some (.lst [gv]) ∧ RGi K G gv (.ref ep) (.ref op) ∧ KI K G kp sp (c + 2 * i + 2 * j)) ⟨x7, rfl, st44, sm4' _ _ hf', sm4' _ _ hO, hl, hg, hki.same sm4'⟩ (fun i σ G _ ⟨_, _, _, _, _, s, _⟩ => SqL.of s) ?_ ?_
        · rintro j v2 σ G5 G6 hj ⟨y7, rfl, st5, f5', O5', l5', g5', k5'⟩ ⟨rfl, hv2⟩
          have j0 : j = 0 := by
            have : j < 1 := hj
            omega
          subst j0
          have ev : v2 = gv := by
            have := List.mem_of_getElem? hv2
            simpa using this
          subst ev
          have pw6 := pw.st st5
          have fld : Fld K G6 sp t ow m := ⟨⟨fs, tvs, S0.st st5, htf⟩, hmem, hpar, ⟨li, n, hes⟩, hnm _ hmem⟩
          refine ⟨_, rfl, _, rfl, _, rfl, _, rfl, kp, sp, v2, op, od, bp, bd, bl, bnd, ep, ed, lp, ld, c + 2 * i, li, n, t, ow, m, rfl, g5', pw6, k5', by omega, fld, fun G7 v7 ⟨l7, ev7, n7, e7, st7⟩ k7 => ?_⟩
          subst ev7
          have f7 := st7.at f5' rfl
          refine ⟨F, l7, [], [], rfl, rfl, f7, e7, by decide, ?_⟩
          generalize hG8 : upd G7 F _ = G8
          have keep : ∀ b o, b ≠ F → G7 b = some o → G8 b = some o := fun b o nb e => by rw [← hG8, upd_ne nb]; exact e
          have same : Same G7 G8 := fun b o e => by
            by_cases nb : b = F
            · subst nb
              rw [f7] at e
              cases e
              rw [← hG8, upd_same]
              rfl
            · exact keep b o nb e
          exact ⟨_, rfl, st5.trans (st7.trans (St.same same)), same _ _ f7, same _ _ (st7.at O5' rfl), same _ _ (st7.at l5' rfl), (g5'.st st7).same same, (k7.same same).more (by omega)⟩
        · rintro σ G5 ⟨y7, rfl, st5, f5', O5', _, _, k5'⟩
          exact ⟨_, y7, rfl, st5, f5', O5', k5'.more (by show c + 2 * i + 2 * 1 ≤ c + 2 * (i + 1); omega)⟩
      · rintro σ G2 ⟨x6, x7, rfl, st', hf', hO, hki⟩
        exact ⟨_, rfl, q G2 _ ⟨F, rfl, hF, hf', st'⟩ (hki.more (by rw [rol]; exact Nat.le_refl _))⟩
end
end V5

set_option maxHeartbeats 2000000
/-! Layers and circles where there is no document; the items' counts. -/
namespace V5
open PySem PySem.Spec PyProof.Rows L2 K2

theorem dtk_get : ∀ {fs : List Fi} {tvs : List V} {i : Nat} {k : Key} {v : V}, (dtk fs tvs)[i]? = some (k, v) → ∃ f, fs[i]? = some f ∧ tvs[i]? = some v ∧ k = .inr f.f
  | [], _, i, k, v, h => by
    rw [show dtk [] _ = [] from rfl] at h
    cases h
  | f :: fs, [], i, k, v, h => by
    rw [show dtk (f :: fs) [] = [] from rfl] at h
    cases h
  | f :: fs, y :: tvs, 0, k, v, h => by
    cases h
    exact ⟨f, rfl, rfl, rfl⟩
  | f :: fs, y :: tvs, i + 1, k, v, h => dtk_get (fs := fs) (tvs := tvs) (i := i) h
def spLayers (K : PySem.W.Frag) : Sp := fun vs H Q _ => ∃ (sp : Addr) (fs : List Fi) (tvs : List V) (Ho : Hp), vs = [.ref sp] ∧ SRC K H sp fs tvs ∧ St Ho H ∧ SRT K Ho H sp ∧ A2 (RFi K Ho) tvs fs ∧ ∀ H' l, Same H H' → H l = none → H' l = some (.dK []) → Q (.ref l) H'
def spTellable (K : PySem.W.Frag) : Sp := fun vs H Q _ => ∃ (u r : Addr), vs = [.ref u, .ref r] ∧ H u = some (.dK []) ∧ ∀ H', Same H H' → Q (.bl true) H'
def spCirc (K : PySem.W.Frag) : Sp := fun vs H Q _ => ∃ (l : Addr) (tv : V), vs = [.ref l, tv] ∧ H l = some (.dK []) ∧ ∀ H' v, Out H H' v [] → Q v H'
section
variable {P : Program} {w : World} {K : PySem.W.Frag} {mg : Str → Option Value} {base : Heap}
theorem ok_layers (E : Env K mg) : FnOk P w K mg base CX0 1 (f_all_layers K) (fd_all_layers K) ["sources"] (spLayers K) := by
  refine E.F_all_layers.ok sc_all_layers (fun vs H Q E h => ?_) (fun cdv A outer s H vs Q E1 hr h => ?_)
  · obtain ⟨sp, fs, tvs, Ho, rfl, _⟩ := h
    rfl
  · obtain ⟨sp, fs, tvs, Ho, rfl, ⟨dx, D, KD, LD, hsp, ⟨hD, _, _⟩, _⟩, sm0, ⟨dx2, D2, k2, l2, hsp2, hoD⟩, ra, q⟩ := h
    have nd := sc_all_layers.nd
    rw [hsp] at hsp2
    cases hsp2
    refine ⟨_, pss_cons (ps_set (i := 1) nd rfl (.inl rfl) pe_dnewK)
      <| pss_cons (ps_lock (ps_for PassesOwn.never rfl (pi_items (pe_fld (pv 0) rfl)) (pg_tup rfl (pgs_cons (pg_name (i := 2) nd rfl (.inl rfl)) (pgs_cons (pg_name (i := 3) nd rfl (.inl rfl)) pgs_nil)))
          (pss_one (ps_if (pt_cmpR op_notN (pe_fld (pv 3) rfl) pe_non (nomark _)) (pss_one ps_never) pss_nil))))
      <| pss_one (ps_ret (pv 1)), ?_⟩
    intro L hL
    have sm1 : Same H (upd H L (.dK [])) := same_new hL
    have l1 : (upd H L (.dK [])) L = some (.dK []) := upd_same
    generalize upd H L (.dK []) = H1 at sm1 l1 ⊢
    have nLD : L ≠ D := (ne_of_none hD hL).symm
    have nspD : sp ≠ D := by
      rintro rfl
      rw [hsp] at hD
      cases hD
    refine ⟨D, .dK (dtk fs tvs), sm1 _ _ hD, trivial, fun od => ?_⟩
    have lk : ∀ z o, H1 z = some o → z ≠ D → upd H1 D (.frz od (.dK (dtk fs tvs))) z = some o := fun z o e n => by
      rw [upd_ne n]
      exact e
    refine ⟨_, rfl, sp, _, dx, _, _, rfl, lk _ _ (sm1 _ _ hsp) nspD, E.C_Sources.c, E.n_Sources_trees, rfl, D, od, dtk fs tvs, rfl, upd_same, ?_⟩
    refine for_it (walk_items (d := D) (o := od) (kvs := dtk fs tvs)) (fun i σ G => ∃ x2 x3 : Option V, σ = [some (.ref sp), some (.ref L), x2, x3, none] ∧ (∀ z o, H1 z = some o → z ≠ D → G z = some o) ∧ G D = some (.frz od (.dK (dtk fs tvs)))) ⟨none, none, rfl, lk, upd_same⟩ (fun i σ G _ ⟨_, _, _, _, s⟩ => s) ?_ ?_
    · rintro i v σ G G' hi ⟨x2, x3, rfl, keep, gD⟩ ⟨T, x, y, rfl, hT, rfl, hx, hy⟩
      obtain ⟨kv, e1⟩ : ∃ kv, (dtk fs tvs)[i]? = some kv := ⟨_, List.getElem?_eq_getElem hi⟩
      dsimp only at hx hy
      rw [e1] at hx hy
      cases hx
      cases hy
      obtain ⟨kk, vv⟩ := kv
      obtain ⟨f, hf, hv, rfl⟩ := dtk_get e1
      obtain ⟨f', hf', r⟩ := ra.getL hv
      rw [hf] at hf'
      cases hf'
      obtain ⟨tp, td, li, ld, ivs, dvs, e2, htp, _⟩ := r.tree
      have e2 : vv = .ref tp := e2
      subst e2
      have ntD : tp ≠ D := ne_of_none htp hoD
      have gt : (upd G T (.tup [kV (.inr f.f), .ref tp])) tp = some (.ins (cFileTree K) td (fTree (.str f.f) (.ref li) (.ref ld) .non)) := same_new hT _ _ (keep _ _ (sm1 _ _ (sm0.at htp rfl)) ntD)
      refine ⟨T, _, rfl, SqT.of upd_same, rfl, ?_⟩
      refine ⟨_, _, rfl, _, _, rfl, rfl, _, rfl, tp, _, td, _, _, rfl, gt, E.C_FileTree.c, E.n_FileTree_document, rfl, rfl, _, rfl, iteF ?_⟩
      exact ⟨_, _, rfl, fun z o e n => same_new hT _ _ (keep z o e n), same_new hT _ _ gD⟩
    · rintro σ G ⟨x2, x3, rfl, keep, gD⟩
      refine ⟨gD, _, rfl, ?_⟩
      have fin : Same H1 (upd G D (.dK (dtk fs tvs))) := fun b o e => by
        by_cases n : b = D
        · subst n
          rw [sm1 _ _ hD] at e
          cases e
          exact upd_same
        · rw [upd_ne n]
          exact keep b o e n
      exact q _ L (fun b o e => fin _ _ (sm1 _ _ e)) hL (fin _ _ l1)
theorem ok_tellable (E : Env K mg) : FnOk P w K mg base CX0 1 (f_can_be_told K) (fd_can_be_told K) ["unread", "read_by"] (spTellable K) := by
  refine E.F_can_be_told.ok sc_can_be_told (fun vs H Q E h => ?_) (fun cdv A outer s H vs Q E1 hr h => ?_)
  · obtain ⟨u, r, rfl, _⟩ := h
    rfl
  · obtain ⟨u, r, rfl, hu, q⟩ := h
    have nd := sc_can_be_told.nd
    refine ⟨_, pss_cons (ps_lock (ps_setDc (n := 2) (mine := [("pattern", 3)]) (tg := gName 3) (tt := tYes) rfl nd rfl rfl (sw_dict rfl rfl rfl (by decide +kernel)) (pi_keys (pv 0)) (blkOk_by (N := ["unread", "read_by", "left", "pattern", "ready", "told", "reader"]) (sc := defScope s_can_be_told) (by decide +kernel))
          (fun _ _ _ _ _ => pg_name (i := 3) nd rfl (Or.inl rfl)) (fun _ _ _ _ _ => pts_nil) (fun _ _ _ _ _ => pv 3) (fun _ _ _ _ _ => pe_never)))
      <| pss_cons (ps_lock (ps_setLc (i := 4) (own := [("pattern", 3)]) (g := gName 3) rfl nd rfl rfl (sw_true rfl rfl rfl (by decide +kernel)) (pi_keys (pv 0)) (blkOk_by (N := ["unread", "read_by", "left", "pattern", "ready", "told", "reader"]) (sc := defScope s_can_be_told) (by decide +kernel))
          (fun _ _ _ _ _ => pg_name (i := 3) nd rfl (Or.inl rfl)) (fun _ _ _ _ _ => pts_one pt_never) (fun _ _ _ _ _ => pv 3)))
      <| pss_cons (ps_set (i := 5) nd rfl (.inl rfl) pe_int)
      <| pss_cons (ps_while PassesOwn.never (pt_truth (pv 4) (by intro _; rfl)) (pss_cons ps_never <| pss_cons ps_never <| pss_one ps_never))
      <| pss_one (ps_ret (pe_cmpR op_eq (pv 5) (pe_callB call_lenD (by rfl) E.u_len PySem.boot_len (pa_cons (pv 0) pa_nil)) (nomark _))), ?_⟩
    have lock : ∀ {G : Hp} {od : Obj} {L : Addr} {o : HO}, G u = some (.dK []) → upd G u (.frz od (.dK [])) L = none → Same G (upd (upd (upd G u (.frz od (.dK []))) L o) u (.dK [])) ∧ (upd (upd (upd G u (.frz od (.dK []))) L o) u (.dK [])) L = some o := by
      intro G od L o hG hL
      have nLu : L ≠ u := (ne_of_none upd_same hL).symm
      refine ⟨fun b x e => ?_, by rw [upd_ne nLu, upd_same]⟩
      by_cases n : b = u
      · subst n
        rw [hG] at e
        cases e
        exact upd_same
      · have nb : b ≠ L := ne_of_none ((upd_ne n).trans e) hL
        rw [upd_ne n, upd_ne nb, upd_ne n]
        exact e
    refine ⟨u, .dK [], hu, trivial, fun od => ?_⟩
    refine ⟨_, rfl, u, od, rfl, .inl ⟨[], upd_same, fun L hL => ?_⟩⟩
    refine dict_it (walk_keys (d := u) (o := od) (kvs := [])) (fun i G => G = upd (upd H u (.frz od (.dK []))) L (.dK [])) rfl (fun i G _ e => by rw [e]; exact same_new hL _ _ upd_same) (fun i v G G' hi => absurd hi (by simp)) ?_
    rintro G rfl
    refine ⟨same_new hL _ _ upd_same, ?_⟩
    obtain ⟨sm1, l1⟩ := lock (o := .dK []) hu hL
    generalize upd (upd (upd H u (.frz od (.dK []))) L (.dK [])) u (.dK []) = H1 at sm1 l1 ⊢
    refine ⟨u, .dK [], sm1 _ _ hu, trivial, fun od2 => ?_⟩
    refine ⟨_, rfl, u, od2, rfl, .inl ⟨[], upd_same, fun M hM => ?_⟩⟩
    refine lc_it (walk_keys (d := u) (o := od2) (kvs := [])) (fun i G => G = upd (upd H1 u (.frz od2 (.dK []))) M (.lst [])) rfl (fun i G _ e => by rw [e]; exact same_new hM _ _ upd_same) (fun i v G G' hi => absurd hi (by simp)) ?_
    rintro G rfl
    refine ⟨same_new hM _ _ upd_same, ?_⟩
    obtain ⟨sm2, m2⟩ := lock (o := .lst []) (sm1 _ _ hu) hM
    generalize upd (upd (upd H1 u (.frz od2 (.dK []))) M (.lst [])) u (.dK []) = H2 at sm2 m2 ⊢
    have sm : Same H H2 := fun b o e => sm2 _ _ (sm1 _ _ e)
    refine ⟨fun k σ G => G = H2 ∧ σ = [some (.ref u), some (.ref r), some (.ref L), none, some (.ref M), some (.int 0), none], ⟨0, rfl, rfl⟩, ?_⟩
    rintro k σ G ⟨rfl, rfl⟩
    exact ⟨_, rfl, false, .inl ⟨_, SqL.of m2, rfl⟩, _, rfl, _, rfl, u, [], rfl, sm _ _ hu, rfl, q G sm⟩
theorem ok_circ (E : Env K mg) : FnOk P w K mg base CX0 2 (f_circle_faults K) (fd_circle_faults K) ["layers", "tree"] (spCirc K) := by
  refine E.F_circle_faults.ok sc_circle_faults (fun vs H Q E h => ?_) (fun cdv A outer s H vs Q E1 hr h => ?_)
  · obtain ⟨l, tv, rfl, _⟩ := h
    rfl
  · obtain ⟨l, tv, rfl, hl, q⟩ := h
    have nd := sc_circle_faults.nd
    have GC : FnOk P w K mg base CX0 1 (f_can_be_told K) (fd_can_be_told K) ["unread", "read_by"] (spTellable K) := ok_tellable E
    refine ⟨_, pss_cons (ps_set (i := 2) nd rfl (.inl rfl) pe_dnewK)
      <| pss_cons (ps_set (i := 3) nd rfl (.inl rfl) pe_dnewK)
      <| pss_cons (ps_lock (ps_for PassesOwn.never rfl (pi_items (pv 0)) (pg_tup rfl (pgs_cons (pg_tup rfl (pgs_cons (pg_name (i := 4) nd rfl (.inl rfl)) (pgs_cons (pg_name (i := 5) nd rfl (.inl rfl)) pgs_nil))) (pgs_cons (pg_name (i := 6) nd rfl (.inl rfl)) pgs_nil)))
          (pss_one ps_never)))
      <| pss_one (ps_ret (pe_ifExp (pt_val (pe_call GC hr (by rfl) E.D_can_be_told.g E.D_can_be_told.k E.D_can_be_told.b .nil pass0 (pa_cons (pv 3) <| pa_cons (pv 2) pa_nil))) (pe_lst pa_nil) pe_never)), ?_⟩
    intro R hR
    have sm1 : Same H (upd H R (.dK [])) := same_new hR
    generalize upd H R (.dK []) = H1 at sm1 ⊢
    intro U hU
    have sm2 : Same H1 (upd H1 U (.dK [])) := same_new hU
    have u2 : (upd H1 U (.dK [])) U = some (.dK []) := upd_same
    have l2 := sm2 _ _ (sm1 _ _ hl)
    have sm02 : Same H (upd H1 U (.dK [])) := fun b o e => sm2 _ _ (sm1 _ _ e)
    generalize upd H1 U (.dK []) = H2 at sm02 u2 l2 ⊢
    refine ⟨l, .dK [], l2, trivial, fun od => ?_⟩
    refine ⟨_, rfl, l, od, [], rfl, upd_same, ?_⟩
    refine for_it (walk_items (d := l) (o := od) (kvs := [])) (fun i σ G => G = upd H2 l (.frz od (.dK [])) ∧ σ = [some (.ref l), some tv, some (.ref R), some (.ref U), none, none, none, none, none]) ⟨rfl, rfl⟩ (fun i σ G _ ⟨e, _⟩ => by rw [e]; exact upd_same) (fun i v σ G G' hi => absurd hi (by simp)) ?_
    rintro σ G ⟨rfl, rfl⟩
    refine ⟨upd_same, ?_⟩
    have back : upd (upd H2 l (.frz od (.dK []))) l (.dK []) = H2 := by
      rw [upd_upd]
      funext b
      by_cases n : b = l
      · subst n
        rw [upd_same, l2]
      · rw [upd_ne n]
    rw [back]
    refine ⟨_, rfl, _, rfl, U, R, rfl, u2, fun H3 sm3 => ⟨_, rfl, iteT ⟨by decide, fun O hO => ?_⟩⟩⟩
    have sm03 : Same H H3 := fun b o e => sm3 _ _ (sm02 _ _ e)
    exact q _ _ ⟨O, rfl, fresh_of sm03 hO, upd_same, fun b o e => same_new hO _ _ (sm03 _ _ e)⟩
end
end V5

set_option maxHeartbeats 2000000
/-! Faults are raised. -/
namespace V5
open PySem PySem.Spec PyProof.Rows L2 K2

abbrev cSE (K : PySem.W.Frag) : Addr := He.ga K "SourceError"
def mn : List Nat → Nat
  | [] => 0
  | [a] => a
  | a :: b :: r => min a (mn (b :: r))
theorem mn_le : ∀ {ns : List Nat} {a : Nat}, a ∈ ns → mn ns ≤ a
  | [b], a, h => by
    rw [List.mem_singleton] at h
    subst h
    exact Nat.le_refl _
  | b :: c :: r, a, h => by
    show min b (mn (c :: r)) ≤ a
    rcases List.mem_cons.mp h with rfl | h
    · exact Nat.min_le_left _ _
    · exact Nat.le_trans (Nat.min_le_right _ _) (mn_le h)
theorem mn_mem : ∀ {ns : List Nat}, ns ≠ [] → mn ns ∈ ns
  | [b], _ => List.mem_singleton.mpr rfl
  | b :: c :: r, _ => by
    show min b (mn (c :: r)) ∈ _
    have ih : mn (c :: r) ∈ c :: r := mn_mem (by simp)
    by_cases h : b ≤ mn (c :: r)
    · rw [Nat.min_eq_left h]
      exact List.mem_cons_self
    · rw [Nat.min_eq_right (by omega)]
      exact List.mem_cons_of_mem _ ih
/-- the first file with faults, its least -/
def dueF : List Fi → List (List Nat) → Option (Str × Nat)
  | f :: fs, ns :: r => if ns = [] then dueF fs r else some (f.f, mn ns)
  | _, _ => none
def SErr (K : PySem.W.Frag) (H : Hp) (x f : Str) (n : Nat) (E : XK) : Prop := ∀ d H', Same H H' → H' d = some (.xd [("index", .int (n : Nat)), ("file", .str f), ("word", .str x)]) → E (.ref (cSE K)) (some d) H'
theorem SErr.same {K : PySem.W.Frag} {H H1 : Hp} {x f : Str} {n : Nat} {E : XK} (e : SErr K H x f n E) (s : Same H H1) : SErr K H1 x f n E := fun d H' s' hd => e d H' (fun b o x => s' b o (s b o x)) hd
def spSEI (K : PySem.W.Frag) : Sp := fun vs H Q _ => ∃ (a : Addr) (x f i : V), vs = [.ref a, x, f, i] ∧ H a = some (exo a (cSE K) none) ∧
  ∀ dx H', H dx = none → dx ≠ a → H' a = some (exo a (cSE K) (some dx)) → H' dx = some (exd dx [("index", i), ("file", f), ("word", x)]) → (∀ b, b ≠ a → b ≠ dx → H' b = H b) → Q .non H'
def RNs (H : Hp) (v : V) (ns : List Nat) : Prop := ∃ l, v = .ref l ∧ H l = some (.lst (nms ns))
def spRefuse (K : PySem.W.Frag) : Sp := fun vs H Q E => ∃ (x : Str) (tl fl : Addr) (tvs fvs : List V) (fs : List Fi) (nss : List (List Nat)), vs = [.str x, .ref tl, .ref fl] ∧ H tl = some (.lst tvs) ∧ H fl = some (.lst fvs) ∧ A2 (RFi K H) tvs fs ∧ A2 (RNs H) fvs nss ∧ fs.length = nss.length ∧
  (dueF fs nss = none → ∀ H', Same H H' → Q .non H') ∧ ∀ f n, dueF fs nss = some (f, n) → SErr K H x f n E
section
variable {P : Program} {w : World} {K : PySem.W.Frag} {mg : Str → Option Value} {base : Heap}
theorem Env.oex (E : Env K mg) : OexC K (cSE K) := oex_of (ex_at E.more 26 rfl)
theorem Env.seI (E : Env K mg) : PySem.W.findIn K (.ref (cSE K)) "__init__" = some (some (.ref (f_SourceError___init__ K))) ∧ PySem.W.typeIn K (.ref (f_SourceError___init__ K)) = some (.type "function") := by
  obtain ⟨a, b⟩ := and2 (ex_at E.more 27 rfl)
  exact ⟨of_decide_eq_true a, of_decide_eq_true b⟩
theorem Env.seN (E : Env K mg) {f : Str} (i : Nat) (h : (fxs ++ fxs2)[i]? = some (.nof "SourceError" f)) : PySem.W.findIn K (.ref (cSE K)) f = some none := of_decide_eq_true (ex_at E.more i h)
theorem ok_seI (E : Env K mg) : FnOk P w K mg base CX0 1 (f_SourceError___init__ K) (fd_SourceError___init__ K) ["self", "word", "file", "index"] (spSEI K) := by
  refine E.F_SourceError___init__.ok sc_SourceError___init__ (fun vs H Q E h => ?_) (fun cdv A outer s H vs Q E1 hr h => ?_)
  · obtain ⟨a, x, f, i, rfl, _⟩ := h
    rfl
  · obtain ⟨a, x, f, i, rfl, ha, q⟩ := h
    refine ⟨_, pss_cons (ps_ost (pv 0) (pv 1)) <| pss_cons (ps_ost (pv 0) (pv 2)) <| pss_one (ps_ost (pv 0) (pv 3)), ?_⟩
    refine ⟨_, rfl, _, rfl, a, cSE K, rfl, E.oex, E.seN 29 rfl, .inl ⟨ha, fun dx hdx ne => ?_⟩⟩
    refine ⟨_, rfl, _, rfl, a, cSE K, rfl, E.oex, E.seN 30 rfl, .inr ⟨dx, [("word", x)], upd_same, by rw [upd_ne ne, upd_same], by show 1 ≤ 900; decide, ?_⟩⟩
    refine ⟨_, rfl, _, rfl, a, cSE K, rfl, E.oex, E.seN 31 rfl, .inr ⟨dx, [("file", f), ("word", x)], by rw [upd_ne (Ne.symm ne), upd_same], upd_same, by show 2 ≤ 900; decide, ?_⟩⟩
    refine q dx _ hdx ne (by rw [upd_ne (Ne.symm ne), upd_ne (Ne.symm ne), upd_same]) upd_same (fun b na nd => ?_)
    rw [upd_ne nd, upd_ne nd, upd_ne na, upd_ne nd]
theorem ok_refuse (E : Env K mg) : FnOk P w K mg base (CX P w) 3 (f_refuse K) (fd_refuse K) ["word", "trees", "faults"] (spRefuse K) := by
  refine E.F_refuse.okX sc_refuse (fun vs H Q E h => ?_) (fun cdv A outer s H vs Q E1 hr h => ?_)
  · obtain ⟨x, tl, fl, tvs, fvs, fs, nss, rfl, _⟩ := h
    rfl
  · obtain ⟨x, tl, fl, tvs, fvs, fs, nss, rfl, htl, hfl, rt, rn, len, q, e⟩ := h
    have nd := sc_refuse.nd
    have GI : FnOk P w K mg base CX0 1 (f_SourceError___init__ K) (fd_SourceError___init__ K) ["self", "word", "file", "index"] (spSEI K) := ok_seI E
    refine ⟨_, pss_one (ps_for PassesOwn.leaving rfl (pi_zip (by rfl) E.u_zip (pa_cons (pv 1) <| pa_cons (pv 2) pa_nil)) (pg_tup rfl (pgs_cons (pg_name (i := 3) nd rfl (.inl rfl)) (pgs_cons (pg_name (i := 4) nd rfl (.inl rfl)) pgs_nil)))
        (pss_one (ps_if (pt_truth (pv 4) (by intro _; rfl))
          (pss_one (ps_raise rfl (takes_of rfl rfl rfl rfl) (pmk_oex E.oex E.seI.1 E.seI.2 GI (hr.mono (by decide)) E.B_SourceError___init__ .nil pass0 rfl E.g_SourceError (pa_cons (pv 0) <| pa_cons (pe_fld (pv 3) rfl) <| pa_cons (pe_callB (cr_min rfl) (by rfl) E.u_min (by decide +kernel) (pa_cons (pv 4) pa_nil)) pa_nil)))) pss_nil))), ?_⟩
    refine ⟨_, rfl, _, rfl, tl, fl, tvs, fvs, rfl, SqL.of htl, SqL.of hfl, ?_⟩
    refine for_it (walk_zip (K := K) (a := tl) (b := fl) (xs := tvs) (ys := fvs) (n := fs.length) (by rw [rt.len, rn.len]; omega)) (fun i σ G => ∃ x3 x4 : Option V, σ = [some (.str x), some (.ref tl), some (.ref fl), x3, x4] ∧ Same H G ∧ dueF fs nss = dueF (fs.drop i) (nss.drop i))
      ⟨none, none, rfl, fun _ _ z => z, rfl⟩ (fun i σ G _ ⟨_, _, _, s, _⟩ => ⟨SqL.of (s _ _ htl), SqL.of (s _ _ hfl)⟩) ?_ ?_
    · rintro i v σ G G' hi ⟨x3, x4, rfl, sm, hd⟩ ⟨T, x', y', rfl, hT, rfl, hx, hy⟩
      dsimp only at hx hy
      obtain ⟨f, hf, r⟩ := rt.getL hx
      obtain ⟨ns, hns, l, rfl, hl⟩ := rn.getL hy
      obtain ⟨tp, td, li, ld, ivs, dvs, rfl, htp, _⟩ := r.tree
      have sm2 : Same H (upd G T (.tup [.ref tp, .ref l])) := fun b o z => same_new hT _ _ (sm _ _ z)
      obtain ⟨h1, e1⟩ := List.getElem?_eq_some_iff.mp hf
      obtain ⟨h2, e2⟩ := List.getElem?_eq_some_iff.mp hns
      rw [List.drop_eq_getElem_cons h1, List.drop_eq_getElem_cons h2, e1, e2] at hd
      have tT : (upd G T (.tup [.ref tp, .ref l])) T = some (.tup [.ref tp, .ref l]) := upd_same
      generalize upd G T (.tup [.ref tp, .ref l]) = G2 at sm2 tT ⊢
      refine ⟨T, _, rfl, SqT.of tT, rfl, ?_⟩
      match ns, hl, hd, hns with
      | [], hl, hd, _ =>
        refine ⟨_, _, rfl, _, _, rfl, rfl, _, rfl, false, .inl ⟨_, SqL.of (sm2 _ _ hl), rfl⟩, iteF ?_⟩
        refine ⟨_, _, rfl, sm2, hd.trans ?_⟩
        show (if ([] : List Nat) = [] then dueF (fs.drop (i + 1)) (nss.drop (i + 1)) else _) = _
        exact if_pos rfl
      | a :: r2, hl, hd, hns =>
        have due : dueF fs nss = some (f.f, mn (a :: r2)) := hd.trans (by
          show (if a :: r2 = [] then dueF (fs.drop (i + 1)) (nss.drop (i + 1)) else _) = _
          exact if_neg (by simp))
        have pos : ((((nms (a :: r2)).length : Nat) : Int) != 0) = true := by
          rw [nms_len, List.length_cons]
          simp
          omega
        refine ⟨_, _, rfl, _, _, rfl, rfl, _, rfl, true, .inl ⟨_, SqL.of (sm2 _ _ hl), pos.symm⟩, iteT ?_⟩
        refine ⟨_, rfl, _, rfl, tp, _, td, _, _, rfl, sm2 _ _ htp, E.C_FileTree.c, E.n_FileTree_name, rfl, _, rfl, l, (a :: r2).map fun n => ((n : Nat) : Int), rfl, SqL.of (by rw [List.map_map]; exact sm2 _ _ hl), by rw [List.length_map, List.length_cons]; omega, fun m hm hle => ?_⟩
        have em : m = ((mn (a :: r2) : Nat) : Int) := by
          obtain ⟨k, hk, rfl⟩ := List.mem_map.mp hm
          have k1 := mn_le hk
          have k2 := hle _ (List.mem_map_of_mem (mn_mem (by simp)))
          have k3 : ((k : Nat) : Int) ≤ ((mn (a :: r2) : Nat) : Int) := k2
          show ((k : Nat) : Int) = _
          omega
        subst em
        refine ⟨by show 3 ≤ 1000; decide, fun b hb => ⟨b, .str x, .str f.f, .int _, rfl, upd_same, fun dx H2 hdx ne c1 c2 keep => ⟨rfl, dx, _, c1, c2, ?_, ?_⟩⟩⟩
        · rw [upd_ne ne] at hdx
          exact hdx
        · rw [upd_ne ne] at hdx
          refine e f.f _ due dx _ (fun c o hc => ?_) upd_same
          have hc2 := sm2 _ _ hc
          have nb : c ≠ b := ne_of_none hc2 hb
          have nd2 : c ≠ dx := ne_of_none hc2 hdx
          rw [upd_ne nd2, del_ne nb, keep c nb nd2, upd_ne nb]
          exact hc2
    · rintro σ G ⟨x3, x4, rfl, sm, hd⟩
      refine q (hd.trans ?_) G sm
      rw [List.drop_length]
      rfl
end
end V5

set_option maxHeartbeats 2000000
/-! Lists of faults; what no faults tell. -/
namespace V5
open PySem PySem.Spec PyProof.Rows L2 K2

/-- a new list of nms -/
def OutT (H H' : Hp) (v : V) (ns : List Nat) : Prop := ∃ l, v = .ref l ∧ H l = none ∧ H' l = some (.lst (nms ns)) ∧ St H H'
theorem Out.t {H H' : Hp} {v : V} {ns : List Nat} (o : Out H H' v ns) : OutT H H' v ns := let ⟨l, a, b, c, d⟩ := o; ⟨l, a, b, c, St.same d⟩
theorem OutS.t {H H' : Hp} {v : V} (o : OutS H H' v) : OutT H H' v [] := o
/-- lists of nms, none of them at L -/
def RN (L : Addr) (H : Hp) (v : V) (ns : List Nat) : Prop := ∃ l, v = .ref l ∧ l ≠ L ∧ H l = some (.lst (nms ns))
theorem rn_step {H G G4 : Hp} {L : Addr} {fvs : List V} {v : V} {nsf : Fi → List Nat} {fs : List Fi} {i : Nat} {f : Fi} (hi : fs[i]? = some f) (hH : H L = none) (st : St H G) (hL : G L = some (.lst fvs)) (ra : A2 (RN L G) fvs ((fs.take i).map nsf)) (o : OutT G G4 v (nsf f)) :
    G4 L = some (.lst fvs) ∧ St H (upd G4 L (.lst (fvs ++ [v]))) ∧ (upd G4 L (.lst (fvs ++ [v]))) L = some (.lst (fvs ++ [v])) ∧ A2 (RN L (upd G4 L (.lst (fvs ++ [v])))) (fvs ++ [v]) ((fs.take (i + 1)).map nsf) ∧ fvs.length ≤ fs.length := by
  obtain ⟨l, rfl, hl, hl4, st4⟩ := o
  have nlL : l ≠ L := (ne_of_none hL hl).symm
  have tk : fs.take (i + 1) = fs.take i ++ [f] := by rw [List.take_add_one, hi]; rfl
  refine ⟨st4.at hL rfl, (st.trans st4).own hH, upd_same, ?_, ?_⟩
  · rw [tk, List.map_append]
    refine (ra.imp fun x ns ⟨l2, e, n2, h2⟩ => ⟨l2, e, n2, ?_⟩).snoc ⟨l, rfl, nlL, ?_⟩
    · rw [upd_ne nlL]
      exact hl4
    · rw [upd_ne n2]
      exact st4.at h2 rfl
  · rw [ra.len, List.length_map, List.length_take]
    omega
theorem rn_ns {L : Addr} {H : Hp} {fvs : List V} {nss : List (List Nat)} (ra : A2 (RN L H) fvs nss) : A2 (RNs H) fvs nss := ra.imp fun _ _ ⟨l, e, _, h⟩ => ⟨l, e, h⟩
theorem dueF_none : ∀ {fs : List Fi} {nss : List (List Nat)}, fs.length = nss.length → dueF fs nss = none → ∀ ns ∈ nss, ns = []
  | [], [], _, _, ns, h => by cases h
  | f :: fs, n :: r, e, d, ns, h => by
    have d : (if n = [] then dueF fs r else some (f.f, mn n)) = none := d
    by_cases hn : n = []
    · rw [if_pos hn] at d
      rcases List.mem_cons.mp h with rfl | h
      · exact hn
      · exact dueF_none (Nat.succ.inj e) d ns h
    · rw [if_neg hn] at d
      cases d
theorem dueF_nil : ∀ (fs : List Fi), dueF fs (fs.map fun _ => []) = none
  | [] => rfl
  | f :: fs => by
    show (if ([] : List Nat) = [] then dueF fs (fs.map fun _ => []) else _) = none
    rw [if_pos rfl]
    exact dueF_nil fs
theorem repF_nd : ∀ {ms : List Mk} {s : List Str}, repF s ms = [] → (ms.map (·.n)).Nodup ∧ ∀ m ∈ ms, m.n ∉ s
  | [], s, _ => ⟨List.nodup_nil, fun _ h => nomatch h⟩
  | m :: r, s, h => by
    unfold repF at h
    obtain ⟨h1, h2⟩ := List.append_eq_nil_iff.mp h
    have ns : m.n ∉ s := fun z => by
      rw [if_pos z] at h1
      cases h1
    obtain ⟨a, b⟩ := repF_nd h2
    refine ⟨List.nodup_cons.mpr ⟨fun z => ?_, a⟩, fun x hx => ?_⟩
    · obtain ⟨x, hx, e⟩ := List.mem_map.mp z
      exact b x hx (List.mem_append_right _ (by rw [e]; exact List.mem_singleton.mpr rfl))
    · rcases List.mem_cons.mp hx with rfl | hx
      · exact ns
      · exact fun z => b x hx (List.mem_append_left _ z)
theorem imp_ok {fs : List Fi} {t : Fi} (h : impF fs t = []) : ∀ m ∈ t.im, V5.has fs m.n = true := by
  intro m hm
  obtain ⟨h1, _⟩ := List.append_eq_nil_iff.mp h
  have h1 := List.map_eq_nil_iff.mp h1
  have h2 : impB fs t.f m = false := by
    cases z : impB fs t.f m with
    | false => rfl
    | true =>
      have : m ∈ t.im.filter (impB fs t.f) := List.mem_filter.mpr ⟨hm, z⟩
      rw [h1] at this
      cases this
  unfold impB at h2
  cases z : V5.has fs m.n with
  | true => rfl
  | false =>
    rw [z] at h2
    simp at h2
theorem tw_ok {fs : List Fi} {t : Fi} (h : twF fs t = []) : (t.ds.map (·.m.n)).Nodup := by
  obtain ⟨h1, _⟩ := List.append_eq_nil_iff.mp h
  have := (repF_nd h1).1
  rw [List.map_map] at this
  exact this
theorem DT.st {K : PySem.W.Frag} {H H' : Hp} (s : St H H') {D : Addr} {fs : List Fi} : DT K H D fs → DT K H' D fs := fun ⟨kvs, h, a, b⟩ => ⟨kvs, s.at h rfl, fun f hf => let ⟨v, e, r⟩ := a f hf; ⟨v, e, r.st s⟩, b⟩
/-- a list of faults is made, file by file -/
structure PvF (G0 : Hp) (R : Addr) (fs : List Fi) (nsf : Fi → List Nat) (X : Nat → Hp → Prop) (i : Nat) (G : Hp) : Prop where
  ex : ∃ fvs, G R = some (.lst fvs) ∧ A2 (RN R G) fvs ((fs.take i).map nsf)
  st : St G0 G
  x : X i G
theorem PvF.zero {G0 : Hp} {R : Addr} {fs : List Fi} {nsf : Fi → List Nat} {X : Nat → Hp → Prop} (hR : G0 R = none) (x : X 0 (upd G0 R (.lst []))) : PvF G0 R fs nsf X 0 (upd G0 R (.lst [])) :=
  ⟨⟨[], upd_same, .nil⟩, St.same (same_new hR), x⟩
theorem PvF.step {G0 G H4 : Hp} {R : Addr} {fs : List Fi} {nsf : Fi → List Nat} {X : Nat → Hp → Prop} {i : Nat} {f : Fi} {y : V} (p : PvF G0 R fs nsf X i G) (hR : G0 R = none) (hf : fs[i]? = some f) (l6 : fs.length ≤ 6) (o : OutT G H4 y (nsf f)) (x : ∀ l o', H4 R = some (.lst l) → X (i + 1) (upd H4 R o')) :
    ∃ acc, H4 R = some (.lst acc) ∧ acc.length < sizeLine ∧ PvF G0 R fs nsf X (i + 1) (upd H4 R (.lst (acc ++ [y]))) := by
  obtain ⟨⟨fvs, hL, ra⟩, st, _⟩ := p
  obtain ⟨a, b, c, d, e⟩ := rn_step hf hR st hL ra o
  exact ⟨fvs, a, small1000 (by omega), ⟨_, c, d⟩, b, x _ _ a⟩
theorem PvF.last {G0 G : Hp} {R : Addr} {fs : List Fi} {nsf : Fi → List Nat} {X : Nat → Hp → Prop} {n : Nat} (p : PvF G0 R fs nsf X n G) (hn : n = fs.length) : ∃ fvs, G R = some (.lst fvs) ∧ A2 (RNs G) fvs (fs.map nsf) := by
  obtain ⟨⟨fvs, hL, ra⟩, _, _⟩ := p
  rw [hn, List.take_length] at ra
  exact ⟨fvs, hL, rn_ns ra⟩
theorem KI.put {K : PySem.W.Frag} {H : Hp} {R : Addr} {l : List V} {o : HO} {p sp : Addr} {n : Nat} (hR : H R = some (.lst l)) : KI K H p sp n → KI K (upd H R o) p sp n := fun ⟨dx, kk, kl, kvs, pvs, h1, nk, h2, h3, h4, h5, h6⟩ =>
  have ne : ∀ {a : Addr} {x : HO}, H a = some x → x ≠ .lst l → a ≠ R := fun {a x} e n z => by
    rw [z, hR] at e
    cases e
    exact n rfl
  ⟨dx, kk, kl, kvs, pvs, (upd_ne (ne h1 (fun z => nomatch z))).trans h1, nk, (upd_ne (ne h2 (fun z => nomatch z))).trans h2, h3, h4, (upd_ne (ne h5 (fun z => nomatch z))).trans h5, h6⟩
/-- the trees' dict, step by step -/
theorem dtk_put {R : V → Fi → Prop} {fs : List Fi} {tvs : List V} {i : Nat} {f : Fi} {v : V} (hf : fs[i]? = some f) (hv : tvs[i]? = some v) (lt : tvs.length = fs.length) (nd : (fs.map (·.f)).Nodup) : putK (dtk (fs.take i) (tvs.take i)) (.inr f.f) v = dtk (fs.take (i + 1)) (tvs.take (i + 1)) := by
  have tk : fs.take (i + 1) = fs.take i ++ [f] := by rw [List.take_add_one, hf]; rfl
  have tk2 : tvs.take (i + 1) = tvs.take i ++ [v] := by rw [List.take_add_one, hv]; rfl
  have nw1 : valV (dtk (fs.take i) (tvs.take i)) (.inr f.f) = none := dtk_none fun g hg e => by
    obtain ⟨j, hj, ej⟩ := List.mem_iff_getElem.mp hg
    rw [List.length_take] at hj
    have h1 : (fs.map (·.f))[j]? = some f.f := by
      rw [List.getElem?_map, List.getElem?_eq_getElem (by omega)]
      rw [List.getElem_take] at ej
      rw [ej, ← e]
      rfl
    have h2 : (fs.map (·.f))[i]? = some f.f := by rw [List.getElem?_map, hf]; rfl
    have := List.getElem?_inj (by rw [List.length_map]; omega) nd |>.mp (h1.trans h2.symm)
    omega
  rw [putK_new _ nw1, tk, tk2, dtk_snoc (by rw [List.length_take, List.length_take, lt])]
end V5

set_option maxHeartbeats 2000000
/-! The files are checked. -/
namespace V5
open PySem PySem.Spec PyProof.Rows L2 K2

def RPg (H : Hp) (v : V) (p : Str × Str) : Prop := ∃ T, v = .ref T ∧ H T = some (.tup [.str p.1, .str p.2])
def Page (p : Str × Str) (f : Fi) : Prop := p.1 = f.f ∧ (cp p.2).length ≤ most ∧ clean (cp p.2) = true ∧ ∃ L', PFi (f.im, f.ds) (toksE (cp p.2)) L'
structure Good (fs : List Fi) : Prop where
  nd : (fs.map (·.f)).Nodup
  few : ∀ f ∈ fs, Few f
  plain : ∀ f ∈ fs, ∀ d ∈ f.ds, PlainD d
  nms : ∀ f ∈ fs, ∀ d ∈ f.ds, d.m.n ≠ ""
  len : fs.length ≤ 6
def SErrT (K : PySem.W.Frag) (H : Hp) (x f : Str) (n : Nat) (E : XK) : Prop := ∀ d H', St H H' → H' d = some (.xd [("index", .int (n : Nat)), ("file", .str f), ("word", .str x)]) → E (.ref (cSE K)) (some d) H'
theorem SErrT.to {K : PySem.W.Frag} {H H1 : Hp} {x f : Str} {n : Nat} {E : XK} (e : SErrT K H x f n E) (s : St H H1) : SErr K H1 x f n E := fun d H' s' hd => e d H' (s.trans (St.same s')) hd
/-- the sources at sp, as they are asked at the end -/
def SRX (K : PySem.W.Frag) (Ho H : Hp) (sp : Addr) (fs : List Fi) (tvs : List V) : Prop := ∃ dx D k l, H sp = some (.ins (cSources K) dx (fSrc (.ref D) k l)) ∧ Ho D = none ∧ H D = some (.dK (dtk fs tvs))
def iw : Str := "\x69mport"
def spChecked (K : PySem.W.Frag) : Sp := fun vs H Q E => ∃ (F : Addr) (xs : List V) (pages : List (Str × Str)) (fs : List Fi), vs = [.ref F] ∧ H F = some (.tup xs) ∧ A2 (RPg H) xs pages ∧ A2 Page pages fs ∧ Good fs ∧
  (∀ f n, dueF fs (fs.map (impF fs)) = some (f, n) → SErrT K H iw f n E) ∧ (dueF fs (fs.map (impF fs)) = none → ∀ f n, dueF fs (fs.map (twF fs)) = some (f, n) → SErrT K H "twice" f n E) ∧
  (dueF fs (fs.map (impF fs)) = none → dueF fs (fs.map (twF fs)) = none → ∀ H' Ho sp tvs, St H H' → SRX K Ho H' sp fs tvs → St Ho H' → A2 (RFi K Ho) tvs fs → (∀ b o, H b = some o → Ho b = none) → Q (.ref sp) H')
section
variable {P : Program} {w : World} {K : PySem.W.Frag} {mg : Str → Option Value} {base : Heap}
abbrev chN : List Str := ["files", "trees", "name", "text", "by_name", "tree", "sources", "kinds"]
set_option maxHeartbeats 4000000 in
theorem ok_checked (E : Env K mg) : FnOk P w K mg base (CX P w) 13 (f_checked K) (fd_checked K) ["files"] (spChecked K) := by
  refine E.F_checked.okX sc_checked (fun vs H Q E h => ?_) (fun cdv A outer s H vs Q E1 hr h => ?_)
  · obtain ⟨F, xs, pages, fs, rfl, _⟩ := h
    rfl
  · obtain ⟨F, xs, pages, fs, rfl, hF, rx, rp, gd, e1, e2, q⟩ := h
    have nd := sc_checked.nd
    have GT : FnOk P w K mg base CX0 12 (f_tree_of K) (fd_tree_of K) ["file", "text"] (spTreeOf K) := ok_tree_of E
    have GR : FnOk P w K mg base (CX P w) 3 (f_refuse K) (fd_refuse K) ["word", "trees", "faults"] (spRefuse K) := ok_refuse E
    have GI : FnOk P w K mg base CX0 2 (f_import_faults K) (fd_import_faults K) ["trees", "tree"] (spImp K) := ok_import_faults E
    have GW : FnOk P w K mg base CX0 2 (f_twice_faults K) (fd_twice_faults K) ["trees", "tree"] (spTwice K) := ok_twice E
    have GS : FnOk P w K mg base CX0 2 (f_Sources___init__ K) (fd_Sources___init__ K) ["self", "trees"] (spSrc K) := ok_Sources E
    have GN : FnOk P w K mg base CX0 2 (f_name_faults K) (fd_name_faults K) ["sources", "tree"] (spNone K) := ok_names E
    have GG : FnOk P w K mg base CX0 3 (f_ring_faults K) (fd_ring_faults K) ["sources", "tree"] (spNone K) := ok_rings E
    have GF : FnOk P w K mg base CX0 4 (f_field_faults K) (fd_field_faults K) ["sources", "tree"] (spNoneS K) := ok_fields E
    have GK : FnOk P w K mg base CX0 1 (f_Kinds___init__ K) (fd_Kinds___init__ K) ["self", "sources"] (spKinds K) := ok_Kinds E
    have GKf : FnOk P w K mg base CX0 7 (f_kind_faults K) (fd_kind_faults K) ["sources", "kinds", "tree"] (spKf K) := ok_kf E
    have GL : FnOk P w K mg base CX0 1 (f_all_layers K) (fd_all_layers K) ["sources"] (spLayers K) := ok_layers E
    have GC : FnOk P w K mg base CX0 2 (f_circle_faults K) (fd_circle_faults K) ["layers", "tree"] (spCirc K) := ok_circ E
    refine ⟨_, pss_cons (ps_setLc (i := 1) (own := [("name", 2), ("text", 3)]) (g := gTup K 2 (gCons (gName 2) (gCons (gName 3) gNil))) rfl nd rfl rfl (sw_true rfl rfl rfl (by decide +kernel)) (pi_tup (pv 0)) (blkOk_by (N := chN) (sc := defScope s_checked) (by decide +kernel))
          (fun _ _ _ _ _ => pg_tup rfl (pgs_cons (pg_name (i := 2) nd rfl (Or.inl rfl)) (pgs_cons (pg_name (i := 3) nd rfl (Or.inl rfl)) pgs_nil))) (fun _ _ _ _ _ => pts_nil)
          (fun _ _ _ _ _ => pe_call GT hr (by rfl) E.D_tree_of.g E.D_tree_of.k E.D_tree_of.b .nil pass0 (pa_cons (pv 2) <| pa_cons (pv 3) pa_nil)))
      <| pss_cons (ps_set (i := 4) nd rfl (.inr rfl) (pe_dc (own := [("tree", 5)]) (g := gName 5) (tt := tYes) rfl nd (pi_list (pv 1)) (blkOk_by (N := chN) (sc := defScope s_checked) (by decide +kernel))
          (fun _ _ _ _ _ => pg_name (i := 5) nd rfl (Or.inl rfl)) (fun _ _ _ _ _ => pts_nil) (fun _ _ _ _ _ => show PE _ _ (tFld K (tVar 5) "name") from pe_fld (pv 5) rfl) (fun _ _ _ _ _ => pv 5)))
      <| pss_cons (ps_expr (pe_call GR (hr.mono (by decide)) (by rfl) E.D_refuse.g E.D_refuse.k E.D_refuse.b .nil (passes_call (takes_of rfl rfl rfl rfl) fun _ _ _ _ z => z) (pa_cons pe_str <| pa_cons (pv 1) <| pa_cons
          (pe_lc (own := [("tree", 5)]) (g := gName 5) (tt := tYes) rfl nd (pi_list (pv 1)) (blkOk_by (N := chN) (sc := defScope s_checked) (by decide +kernel)) (fun _ _ _ _ _ => pg_name (i := 5) nd rfl (Or.inl rfl)) (fun _ _ _ _ _ => pts_nil)
            (fun _ _ _ _ _ => pe_call GI (hr.mono (by decide)) (by rfl) E.D_import_faults.g E.D_import_faults.k E.D_import_faults.b .nil pass0 (pa_cons (pv 4) <| pa_cons (pv 5) pa_nil))) pa_nil)))
      <| pss_cons (ps_expr (pe_call GR (hr.mono (by decide)) (by rfl) E.D_refuse.g E.D_refuse.k E.D_refuse.b .nil (passes_call (takes_of rfl rfl rfl rfl) fun _ _ _ _ z => z) (pa_cons pe_str <| pa_cons (pv 1) <| pa_cons
          (pe_lc (own := [("tree", 5)]) (g := gName 5) (tt := tYes) rfl nd (pi_list (pv 1)) (blkOk_by (N := chN) (sc := defScope s_checked) (by decide +kernel)) (fun _ _ _ _ _ => pg_name (i := 5) nd rfl (Or.inl rfl)) (fun _ _ _ _ _ => pts_nil)
            (fun _ _ _ _ _ => pe_call GW (hr.mono (by decide)) (by rfl) E.D_twice_faults.g E.D_twice_faults.k E.D_twice_faults.b .nil pass0 (pa_cons (pv 4) <| pa_cons (pv 5) pa_nil))) pa_nil)))
      <| pss_cons (ps_set (i := 6) nd rfl (.inr rfl) (pe_make E.C_Sources.k GS (hr.mono (by decide)) (by rfl) E.C_Sources.g E.C_Sources.b .nil pass0 (pa_cons (pv 1) pa_nil)))
      <| pss_cons (ps_expr (pe_call GR (hr.mono (by decide)) (by rfl) E.D_refuse.g E.D_refuse.k E.D_refuse.b .nil (passes_call (takes_of rfl rfl rfl rfl) fun _ _ _ _ z => z) (pa_cons pe_str <| pa_cons (pv 1) <| pa_cons
          (pe_lc (own := [("tree", 5)]) (g := gName 5) (tt := tYes) rfl nd (pi_list (pv 1)) (blkOk_by (N := chN) (sc := defScope s_checked) (by decide +kernel)) (fun _ _ _ _ _ => pg_name (i := 5) nd rfl (Or.inl rfl)) (fun _ _ _ _ _ => pts_nil)
            (fun _ _ _ _ _ => pe_call GN (hr.mono (by decide)) (by rfl) E.D_name_faults.g E.D_name_faults.k E.D_name_faults.b .nil pass0 (pa_cons (pv 6) <| pa_cons (pv 5) pa_nil))) pa_nil)))
      <| pss_cons (ps_expr (pe_call GR (hr.mono (by decide)) (by rfl) E.D_refuse.g E.D_refuse.k E.D_refuse.b .nil (passes_call (takes_of rfl rfl rfl rfl) fun _ _ _ _ z => z) (pa_cons pe_str <| pa_cons (pv 1) <| pa_cons
          (pe_lc (own := [("tree", 5)]) (g := gName 5) (tt := tYes) rfl nd (pi_list (pv 1)) (blkOk_by (N := chN) (sc := defScope s_checked) (by decide +kernel)) (fun _ _ _ _ _ => pg_name (i := 5) nd rfl (Or.inl rfl)) (fun _ _ _ _ _ => pts_nil)
            (fun _ _ _ _ _ => pe_call GG (hr.mono (by decide)) (by rfl) E.D_ring_faults.g E.D_ring_faults.k E.D_ring_faults.b .nil pass0 (pa_cons (pv 6) <| pa_cons (pv 5) pa_nil))) pa_nil)))
      <| pss_cons (ps_expr (pe_call GR (hr.mono (by decide)) (by rfl) E.D_refuse.g E.D_refuse.k E.D_refuse.b .nil (passes_call (takes_of rfl rfl rfl rfl) fun _ _ _ _ z => z) (pa_cons pe_str <| pa_cons (pv 1) <| pa_cons
          (pe_lc (own := [("tree", 5)]) (g := gName 5) (tt := tYes) rfl nd (pi_list (pv 1)) (blkOk_by (N := chN) (sc := defScope s_checked) (by decide +kernel)) (fun _ _ _ _ _ => pg_name (i := 5) nd rfl (Or.inl rfl)) (fun _ _ _ _ _ => pts_nil)
            (fun _ _ _ _ _ => pe_call GF (hr.mono (by decide)) (by rfl) E.D_field_faults.g E.D_field_faults.k E.D_field_faults.b .nil pass0 (pa_cons (pv 6) <| pa_cons (pv 5) pa_nil))) pa_nil)))
      <| pss_cons (ps_set (i := 7) nd rfl (.inr rfl) (pe_make E.C_Kinds.k GK (hr.mono (by decide)) (by rfl) E.C_Kinds.g E.C_Kinds.b .nil pass0 (pa_cons (pv 6) pa_nil)))
      <| pss_cons (ps_expr (pe_call GR (hr.mono (by decide)) (by rfl) E.D_refuse.g E.D_refuse.k E.D_refuse.b .nil (passes_call (takes_of rfl rfl rfl rfl) fun _ _ _ _ z => z) (pa_cons pe_str <| pa_cons (pv 1) <| pa_cons
          (pe_lc (own := [("tree", 5)]) (g := gName 5) (tt := tYes) rfl nd (pi_list (pv 1)) (blkOk_by (N := chN) (sc := defScope s_checked) (by decide +kernel)) (fun _ _ _ _ _ => pg_name (i := 5) nd rfl (Or.inl rfl)) (fun _ _ _ _ _ => pts_nil)
            (fun _ _ _ _ _ => pe_call GKf (hr.mono (by decide)) (by rfl) E.D_kind_faults.g E.D_kind_faults.k E.D_kind_faults.b .nil pass0 (pa_cons (pv 6) <| pa_cons (pv 7) <| pa_cons (pv 5) pa_nil))) pa_nil)))
      <| pss_cons (ps_fld (pv 6) (pe_call GL (hr.mono (by decide)) (by rfl) E.D_all_layers.g E.D_all_layers.k E.D_all_layers.b .nil pass0 (pa_cons (pv 6) pa_nil)) rfl)
      <| pss_cons (ps_expr (pe_call GR (hr.mono (by decide)) (by rfl) E.D_refuse.g E.D_refuse.k E.D_refuse.b .nil (passes_call (takes_of rfl rfl rfl rfl) fun _ _ _ _ z => z) (pa_cons pe_str <| pa_cons (pv 1) <| pa_cons
          (pe_lc (own := [("tree", 5)]) (g := gName 5) (tt := tYes) rfl nd (pi_list (pv 1)) (blkOk_by (N := chN) (sc := defScope s_checked) (by decide +kernel)) (fun _ _ _ _ _ => pg_name (i := 5) nd rfl (Or.inl rfl)) (fun _ _ _ _ _ => pts_nil)
            (fun _ _ _ _ _ => pe_call GC (hr.mono (by decide)) (by rfl) E.D_circle_faults.g E.D_circle_faults.k E.D_circle_faults.b .nil pass0 (pa_cons (show PE _ _ (tFld K (tVar 6) "layers") from pe_fld (pv 6) rfl) <| pa_cons (pv 5) pa_nil))) pa_nil)))
      <| pss_one (ps_ret (pv 6)), ?_⟩
    have lpx : xs.length = fs.length := rx.len.trans rp.len
    have l6 := gd.len
    refine ⟨_, rfl, F, rfl, ⟨_, SqT.of hF⟩, fun L hL => ?_⟩
    refine lc_it (walk_tup (K := K) (a := F) (xs := xs)) (fun i G => ∃ tvs, G L = some (.lst tvs) ∧ Tr (upd H L (.lst [])) G ∧ St H G ∧ A2 (RFi K (nw (upd H L (.lst [])) G)) tvs (fs.take i)) ⟨[], upd_same, Tr.refl _, St.same (same_new hL), .nil⟩
      (fun i G _ ⟨_, _, _, st, _⟩ => SqT.of (st.at hF rfl)) ?_ ?_
    · rintro i v G G' hi ⟨tvs, gL, tr, st, ra⟩ ⟨rfl, hiv⟩
      obtain ⟨pg, hp, T, rfl, hT⟩ := rx.getL hiv
      obtain ⟨f, hf, en, hx, cl, L', pf⟩ := rp.getL hp
      obtain ⟨n, x⟩ := pg
      have en : n = f.f := en
      subst en
      have tk : fs.take (i + 1) = fs.take i ++ [f] := by rw [List.take_add_one, hf]; rfl
      refine ⟨T, _, rfl, SqT.of (st.at hT rfl), rfl, ?_⟩
      refine ⟨_, _, rfl, _, _, rfl, rfl, rfl, ?_⟩
      refine ⟨_, rfl, _, rfl, f.f, x, (f.im, f.ds), L', rfl, hx, cl, pf, fun G4 v st4 r4 => ?_⟩
      have gL4 := st4.at gL rfl
      refine ⟨tvs, gL4, small1000 (by rw [ra.len, List.length_take]; omega), tvs ++ [v], upd_same, (tr.trans st4.tr).put, (st.trans st4).own hL, ?_⟩
      rw [nw_own upd_same, tk]
      exact (ra.imp fun _ _ z => z.st (nw_st (Tr.refl _) st4)).snoc (r4.st (nw_st tr (St.refl G4)))
    rintro H1 ⟨tvs, t1, _, st1, ra0⟩
    rw [lpx, List.take_length] at ra0
    have ra1 : A2 (RFi K H1) tvs fs := ra0.imp fun _ _ z => z.st (St.same nw_same)
    have lt : tvs.length = fs.length := ra1.len
    -- the trees by name
    refine ⟨_, rfl, L, rfl, ⟨_, SqL.of t1⟩, fun D hD => ?_⟩
    refine dict_it (walk_list (K := K) (a := L) (xs := tvs)) (fun i G => G = upd H1 D (.dK (dtk (fs.take i) (tvs.take i)))) rfl (fun i G _ e => by rw [e]; exact SqL.of (same_new hD _ _ t1)) ?_ ?_
    · rintro i v G G' hi rfl ⟨rfl, hiv⟩
      obtain ⟨f, hf, r⟩ := ra1.getL hiv
      obtain ⟨tp, td, li, ld, ivs, dvs, rfl, htp, _⟩ := r.tree
      refine ⟨rfl, _, rfl, tp, _, td, _, _, rfl, same_new hD _ _ htp, E.C_FileTree.c, E.n_FileTree_name, rfl, _, rfl, _, .inr f.f, rfl, upd_same, ?_, ?_⟩
      · refine small1000 (Nat.le_trans (dtk_len _ _) ?_)
        rw [List.length_take]
        omega
      · rw [upd_upd, dtk_put (R := RFi K H1) hf hiv lt gd.nd]
    rintro G rfl
    rw [show fs.take tvs.length = fs from by rw [lt, List.take_length], List.take_length]
    have sm2 : Same H1 (upd H1 D (.dK (dtk fs tvs))) := same_new hD
    have d2 : (upd H1 D (.dK (dtk fs tvs))) D = some (.dK (dtk fs tvs)) := upd_same
    generalize upd H1 D (.dK (dtk fs tvs)) = H2 at sm2 d2 ⊢
    have st2 : St H H2 := st1.trans (St.same sm2)
    have ra2 : A2 (RFi K H2) tvs fs := ra1.imp fun _ _ z => z.st (St.same sm2)
    have dt2 : DT K H2 D fs := (show DTX K H2 D fs tvs from ⟨d2, ra2, gd.nd⟩).dt
    have t2 := sm2 _ _ t1
    have gl : ∀ {i : Nat} {v : V}, tvs[i]? = some v → ∃ f, fs[i]? = some f ∧ f ∈ fs ∧ RFi K H2 v f := fun h => let ⟨f, hf, r⟩ := ra2.getL h; ⟨f, hf, List.mem_of_getElem? hf, r⟩
    -- what is brought in
    refine ⟨_, rfl, _, rfl, L, rfl, ⟨_, SqL.of t2⟩, fun R hR => ?_⟩
    refine lc_it (walk_list (K := K) (a := L) (xs := tvs)) (PvF H2 R fs (impF fs) (fun _ _ => True)) (.zero hR trivial) (fun i G _ p => SqL.of (p.st.at t2 rfl)) ?_ ?_
    · rintro i v G G' hi p ⟨rfl, hiv⟩
      obtain ⟨f, hf, hm, r⟩ := gl hiv
      exact ⟨rfl, _, rfl, _, rfl, D, v, fs, f, rfl, dt2.st p.st, r.st p.st, Nat.le_trans (gd.few f hm).1 (by decide), fun H4 y o => p.step hR hf l6 o.t (fun _ _ _ => trivial)⟩
    rintro H3 p3
    obtain ⟨fv3, r3, rn3⟩ := p3.last lt
    have st3 := st2.trans p3.st
    refine ⟨iw, L, R, tvs, fv3, fs, _, rfl, p3.st.at t2 rfl, r3, ra2.imp fun _ _ z => z.st p3.st, rn3, (List.length_map _).symm, fun due1 H4 sm4 => ?_, fun f n due => (e1 f n due).to st3⟩
    have q := q due1
    have e2 := e2 due1
    have nil1 : ∀ f ∈ fs, impF fs f = [] := fun f hf => dueF_none (List.length_map _).symm due1 _ (List.mem_map_of_mem hf)
    have st24 : St H2 H4 := p3.st.trans (St.same sm4)
    have st4 := st2.trans st24
    have t4 := st24.at t2 rfl
    clear st3 rn3 r3 p3 sm4
    -- what stands twice
    refine ⟨_, rfl, _, rfl, L, rfl, ⟨_, SqL.of t4⟩, fun R5 hR5 => ?_⟩
    refine lc_it (walk_list (K := K) (a := L) (xs := tvs)) (PvF H4 R5 fs (twF fs) (fun _ _ => True)) (.zero hR5 trivial) (fun i G _ p => SqL.of (p.st.at t4 rfl)) ?_ ?_
    · rintro i v G G' hi p ⟨rfl, hiv⟩
      obtain ⟨f, hf, hm, r⟩ := gl hiv
      exact ⟨rfl, _, rfl, _, rfl, D, v, fs, f, rfl, (dt2.st st24).st p.st, (r.st st24).st p.st, gd.few f hm, gd.few, imp_ok (nil1 f hm), gd.plain f hm, fun H4 y o => p.step hR5 hf l6 o.t (fun _ _ _ => trivial)⟩
    rintro H5 p5
    obtain ⟨fv5, r5, rn5⟩ := p5.last lt
    have st5 := st4.trans p5.st
    have st25 := st24.trans p5.st
    refine ⟨"twice", L, R5, tvs, fv5, fs, _, rfl, p5.st.at t4 rfl, r5, ra2.imp fun _ _ z => z.st st25, rn5, (List.length_map _).symm, fun due2 H6 sm6 => ?_, fun f n due => (e2 f n due).to st5⟩
    have q := q due2
    have nil2 : ∀ f ∈ fs, twF fs f = [] := fun f hf => dueF_none (List.length_map _).symm due2 _ (List.mem_map_of_mem hf)
    have st26 : St H2 H6 := st25.trans (St.same sm6)
    have st6 := st2.trans st26
    have raN : A2 (RFi K (nw H H6)) tvs fs := ra0.imp fun _ _ z => z.st (nw_st ((Tr.refl H).put) ((St.same sm2).trans st26))
    have t6 := st26.at t2 rfl
    have ra6 : A2 (RFi K H6) tvs fs := ra2.imp fun _ _ z => z.st st26
    have gl6 : ∀ {i : Nat} {v : V}, tvs[i]? = some v → ∃ f, fs[i]? = some f ∧ f ∈ fs ∧ RFi K H6 v f := fun h => let ⟨f, hf, r⟩ := ra6.getL h; ⟨f, hf, List.mem_of_getElem? hf, r⟩
    have well : Well fs := ⟨gd.nd, gd.few, fun f hf => imp_ok (nil1 f hf), fun f hf => tw_ok (nil2 f hf), gd.plain, Nat.le_trans l6 (by decide)⟩
    have nodue : ∀ {f : Str} {n : Nat} {x : Str} {G : Hp}, dueF fs (fs.map fun _ => []) = some (f, n) → SErr K G x f n E1 := fun due => by
      rw [dueF_nil] at due
      cases due
    clear st5 rn5 r5 p5 sm6 dt2 gl st25 st24 st4 t4 d2
    -- the sources
    refine ⟨_, rfl, ?_⟩
    intro x dx hx hdx nex
    have smx : Same H6 (upd (upd H6 dx (.own x)) x (.ins (cSources K) dx [])) := fun b o e => by
      rw [upd_ne (ne_of_none e hx), upd_ne (ne_of_none e hdx)]
      exact e
    refine ⟨H6, x, dx, L, tvs, fs, rfl, upd_same, smx, hx, t6, ra6, well, fun H7 sm7 src srt => ⟨rfl, ?_⟩⟩
    clear smx
    have t7 := sm7 _ _ t6
    obtain ⟨sdx, sD, sk, sl, hsx, hoD⟩ := srt
    have src0 := src
    obtain ⟨sdx', sD', sKD, sLD, hsx', ⟨hsD, _, _⟩, _⟩ := src0
    rw [hsx] at hsx'
    cases hsx'
    have ra7 : A2 (RFi K H7) tvs fs := ra6.imp fun _ _ z => z.st (St.same sm7)
    have gl7 : ∀ {i : Nat} {v : V}, tvs[i]? = some v → ∃ f, fs[i]? = some f ∧ f ∈ fs ∧ RFi K H7 v f := fun h => let ⟨f, hf, r⟩ := ra7.getL h; ⟨f, hf, List.mem_of_getElem? hf, r⟩
    have q7 : St H7 H7 := St.refl _
    -- name
    refine ⟨_, rfl, _, rfl, L, rfl, ⟨_, SqL.of (q7.at t7 rfl)⟩, fun R hR => ?_⟩
    refine lc_it (walk_list (K := K) (a := L) (xs := tvs)) (PvF H7 R fs (fun _ => []) (fun _ _ => True)) (.zero hR trivial) (fun i G _ p => SqL.of (p.st.at (q7.at t7 rfl) rfl)) ?_ ?_
    · rintro i v G G' hi p ⟨rfl, hiv⟩
      obtain ⟨f, hf, hm, r⟩ := gl7 hiv
      have rG := (r.st q7).st p.st
      exact ⟨rfl, _, rfl, _, rfl, _, _, v, f, rfl, fun _ _ e => e, rG, Nat.le_trans (gd.few f hm).2 (by decide), gd.plain f hm, fun H4 y o => p.step hR hf l6 o.t (fun _ _ _ => trivial)⟩
    rintro G8 p
    obtain ⟨fv, rL, rn⟩ := p.last lt
    refine ⟨"name", L, R, tvs, fv, fs, _, rfl, p.st.at (q7.at t7 rfl) rfl, rL, ra7.imp fun _ _ z => (z.st q7).st p.st, rn, (List.length_map _).symm, fun _ H8 sm => ?_, fun f n due => nodue due⟩
    have q8 : St H7 H8 := q7.trans (p.st.trans (St.same sm))
    clear rn rL p sm
    -- ring
    refine ⟨_, rfl, _, rfl, L, rfl, ⟨_, SqL.of (q8.at t7 rfl)⟩, fun R hR => ?_⟩
    refine lc_it (walk_list (K := K) (a := L) (xs := tvs)) (PvF H8 R fs (fun _ => []) (fun _ _ => True)) (.zero hR trivial) (fun i G _ p => SqL.of (p.st.at (q8.at t7 rfl) rfl)) ?_ ?_
    · rintro i v G G' hi p ⟨rfl, hiv⟩
      obtain ⟨f, hf, hm, r⟩ := gl7 hiv
      have rG := (r.st q8).st p.st
      exact ⟨rfl, _, rfl, _, rfl, _, _, v, f, rfl, fun _ _ e => e, rG, Nat.le_trans (gd.few f hm).2 (by decide), gd.plain f hm, fun H4 y o => p.step hR hf l6 o.t (fun _ _ _ => trivial)⟩
    rintro G9 p
    obtain ⟨fv, rL, rn⟩ := p.last lt
    refine ⟨"ring", L, R, tvs, fv, fs, _, rfl, p.st.at (q8.at t7 rfl) rfl, rL, ra7.imp fun _ _ z => (z.st q8).st p.st, rn, (List.length_map _).symm, fun _ H9 sm => ?_, fun f n due => nodue due⟩
    have q9 : St H7 H9 := q8.trans (p.st.trans (St.same sm))
    clear rn rL p sm
    -- field
    refine ⟨_, rfl, _, rfl, L, rfl, ⟨_, SqL.of (q9.at t7 rfl)⟩, fun R hR => ?_⟩
    refine lc_it (walk_list (K := K) (a := L) (xs := tvs)) (PvF H9 R fs (fun _ => []) (fun _ _ => True)) (.zero hR trivial) (fun i G _ p => SqL.of (p.st.at (q9.at t7 rfl) rfl)) ?_ ?_
    · rintro i v G G' hi p ⟨rfl, hiv⟩
      obtain ⟨f, hf, hm, r⟩ := gl7 hiv
      have rG := (r.st q9).st p.st
      exact ⟨rfl, _, rfl, _, rfl, _, x, sdx, _, v, f, rfl, p.st.at (q9.at hsx rfl) rfl, rfl, fun _ _ e => e, rG, Nat.le_trans (gd.few f hm).2 (by decide), gd.plain f hm, fun H4 y o => p.step hR hf l6 o.t (fun _ _ _ => trivial)⟩
    rintro G10 p
    obtain ⟨fv, rL, rn⟩ := p.last lt
    refine ⟨"field", L, R, tvs, fv, fs, _, rfl, p.st.at (q9.at t7 rfl) rfl, rL, ra7.imp fun _ _ z => (z.st q9).st p.st, rn, (List.length_map _).symm, fun _ H10 sm => ?_, fun f n due => nodue due⟩
    have q10 : St H7 H10 := q9.trans (p.st.trans (St.same sm))
    clear rn rL p sm
    -- the kinds
    refine ⟨_, rfl, ?_⟩
    intro kp kdx hkp hkdx nek
    have smk : Same H10 (upd (upd H10 kdx (.own kp)) kp (.ins (cKinds K) kdx [])) := fun b o e => by
      rw [upd_ne (ne_of_none e hkp), upd_ne (ne_of_none e hkdx)]
      exact e
    refine ⟨kp, kdx, x, rfl, upd_same, fun H11 keep ki => ⟨rfl, ?_⟩⟩
    have sm11 : Same H10 H11 := fun b o e => keep b (ne_of_none e hkp) o (smk _ _ e)
    have q11 : St H7 H11 := q10.trans (St.same sm11)
    -- kind
    refine ⟨_, rfl, _, rfl, L, rfl, ⟨_, SqL.of (q11.at t7 rfl)⟩, fun R hR => ?_⟩
    refine lc_it (walk_list (K := K) (a := L) (xs := tvs)) (PvF H11 R fs (fun _ => []) (fun i G => KI K G kp x (40 * i))) (.zero hR (ki.same (same_new hR))) (fun i G _ p => SqL.of (p.st.at (q11.at t7 rfl) rfl)) ?_ ?_
    · rintro i v G G' hi p ⟨rfl, hiv⟩
      obtain ⟨f, hf, hm, r⟩ := gl7 hiv
      have il : i < fs.length := by rw [← lt]; exact hi
      have rG := (r.st q11).st p.st
      have lo : (owns f.ds).length ≤ 20 := Nat.le_trans (List.length_filterMap_le _ _) (gd.few f hm).2
      exact ⟨rfl, _, rfl, _, rfl, _, rfl, x, kp, v, f, 40 * i, rfl, rG, Nat.le_trans (gd.few f hm).2 (by decide), gd.plain f hm, ⟨fs, tvs, (src.st q11).st p.st, hm⟩, gd.nms f hm, p.x, by omega, fun H4 y o k => p.step hR hf l6 o.t (fun _ _ e => (k.more (by omega)).put e)⟩
    rintro G12 p
    obtain ⟨fv, rL, rn⟩ := p.last lt
    refine ⟨"kind", L, R, tvs, fv, fs, _, rfl, p.st.at (q11.at t7 rfl) rfl, rL, ra7.imp fun _ _ z => (z.st q11).st p.st, rn, (List.length_map _).symm, fun _ H12 sm => ?_, fun f n due => nodue due⟩
    have q12 : St H7 H12 := q11.trans (p.st.trans (St.same sm))
    clear rn rL p sm
    -- the layers
    have s612 : St H6 H12 := (St.same sm7).trans q12
    refine ⟨_, rfl, x, fs, tvs, H6, rfl, src.st q12, s612, ⟨sdx, _, _, _, q12.at hsx rfl, hoD⟩, ra6, fun H13 l sm13 nl hl => ?_⟩
    have q13 : St H7 H13 := q12.trans (St.same sm13)
    refine ⟨_, rfl, x, _, sdx, _, rfl, q13.at hsx rfl, E.C_Sources.c, E.n_Sources_layers, (by exact (by decide : 3 < 1000)), ?_⟩
    have nlx : l ≠ x := (ne_of_none (q12.at hsx rfl) nl).symm
    have nDx : sD ≠ x := by
      rintro rfl
      rw [hsx] at hsD
      cases hsD
    have st14 : St H6 (upd H13 x (.ins (cSources K) sdx (fSrc (.ref sD) (.ref sKD) (.ref l)))) := (s612.trans (St.same sm13)).own hx
    have x14 : (upd H13 x (.ins (cSources K) sdx (fSrc (.ref sD) (.ref sKD) (.ref l)))) x = some (.ins (cSources K) sdx (fSrc (.ref sD) (.ref sKD) (.ref l))) := upd_same
    have l14 : (upd H13 x (.ins (cSources K) sdx (fSrc (.ref sD) (.ref sKD) (.ref l)))) l = some (.dK []) := by rw [upd_ne nlx]; exact hl
    have d14 : (upd H13 x (.ins (cSources K) sdx (fSrc (.ref sD) (.ref sKD) (.ref l)))) sD = some (.dK (dtk fs tvs)) := by rw [upd_ne nDx]; exact q13.at hsD rfl
    show tSeq _ _ _ _ (upd H13 x (.ins (cSources K) sdx (fSrc (.ref sD) (.ref sKD) (.ref l))))
    generalize upd H13 x (.ins (cSources K) sdx (fSrc (.ref sD) (.ref sKD) (.ref l))) = H14 at st14 x14 l14 d14 ⊢
    have t14 := st14.at t6 rfl
    -- circles
    refine ⟨_, rfl, _, rfl, L, rfl, ⟨_, SqL.of t14⟩, fun R hR => ?_⟩
    refine lc_it (walk_list (K := K) (a := L) (xs := tvs)) (PvF H14 R fs (fun _ => []) (fun _ _ => True)) (.zero hR trivial) (fun i G _ p => SqL.of (p.st.at t14 rfl)) ?_ ?_
    · rintro i v G G' hi p ⟨rfl, hiv⟩
      obtain ⟨f, hf, hm, r⟩ := gl7 hiv
      exact ⟨rfl, _, rfl, x, _, sdx, _, _, rfl, p.st.at x14 rfl, E.C_Sources.c, E.n_Sources_layers, rfl, _, rfl, l, v, rfl, p.st.at l14 rfl, fun H4 y o => p.step hR hf l6 o.t (fun _ _ _ => trivial)⟩
    rintro G15 p
    obtain ⟨fv, rL, rn⟩ := p.last lt
    refine ⟨"circle", L, R, tvs, fv, fs, _, rfl, p.st.at t14 rfl, rL, ra6.imp fun _ _ z => (z.st st14).st p.st, rn, (List.length_map _).symm, fun _ H15 sm => ?_, fun f n due => nodue due⟩
    have q15 : St H14 H15 := p.st.trans (St.same sm)
    have hide : ∀ b o, H b = some o → nw H H6 b = none := fun b o e => by
      unfold nw
      rw [e]
    have none6 : nw H H6 sD = none := by
      cases z : nw H H6 sD with
      | none => rfl
      | some o =>
        rw [(nw_of z).2] at hoD
        cases hoD
    exact ⟨_, rfl, q H15 (nw H H6) x tvs (st6.trans (st14.trans q15)) ⟨sdx, sD, _, _, q15.at x14 rfl, none6, q15.at d14 rfl⟩ (fun b o e => (st14.trans q15) b o (nw_of e).2) raN hide⟩
end
end V5

set_option maxHeartbeats 2000000
/-! The lists' items are counted. -/
namespace V5
open PySem PySem.Spec PyProof.Rows L2 K2

def AllZ (kvs : List (List Key × V)) : Prop := ∀ q ∈ kvs, q.2 = .int 0
theorem AllZ.put {kvs : List (List Key × V)} (h : AllZ kvs) (k : List Key) : AllZ (putK kvs k (.int 0)) := by
  unfold putK
  split
  · intro q hq
    obtain ⟨r, hr, rfl⟩ := List.mem_map.mp hq
    split
    · rfl
    · exact h r hr
  · intro q hq
    rcases List.mem_append.mp hq with hq | hq
    · exact h q hq
    · rw [List.mem_singleton] at hq
      rw [hq]
def spIc (K : PySem.W.Frag) : Sp := fun vs H Q _ => ∃ (sp : Addr) (fs : List Fi) (tvs : List V) (Ho : Hp), vs = [.ref sp] ∧ SRX K Ho H sp fs tvs ∧ St Ho H ∧ A2 (RFi K Ho) tvs fs ∧ Good fs ∧
  ∀ H' C cvs, Same H H' → H C = none → H' C = some (.dT cvs) → AllZ cvs → cvs.length ≤ 120 → Q (.ref C) H'
section
variable {P : Program} {w : World} {K : PySem.W.Frag} {mg : Str → Option Value} {base : Heap}
theorem ok_ic (E : Env K mg) : FnOk P w K mg base CX0 2 (f_item_counts K) (fd_item_counts K) ["sources"] (spIc K) := by
  refine E.F_item_counts.ok sc_item_counts (fun vs H Q E h => ?_) (fun cdv A outer s H vs Q E1 hr h => ?_)
  · obtain ⟨sp, fs, tvs, Ho, rfl, _⟩ := h
    rfl
  · obtain ⟨sp, fs, tvs, Ho, rfl, ⟨dx, D, k2, l2, hsp, hoD, hD⟩, st0, ra, gd, q⟩ := h
    have nd := sc_item_counts.nd
    have GS : FnOk P w K mg base CX0 1 (f_FileTree_stocks K) (fd_FileTree_stocks K) ["self"] (spStocks K) := ok_stocks E
    refine ⟨_, pss_cons (ps_set (i := 1) nd rfl (.inl rfl) pe_dnewT)
      <| pss_cons (ps_lock (ps_for PassesOwn.never rfl (pi_items (pe_fld (pv 0) rfl)) (pg_tup rfl (pgs_cons (pg_name (i := 2) nd rfl (.inl rfl)) (pgs_cons (pg_name (i := 3) nd rfl (.inl rfl)) pgs_nil)))
          (pss_one (ps_for PassesOwn.never rfl (pi_list (pe_meth0 (pv 3) E.C_FileTree.c E.M_FileTree_stocks.m GS hr E.M_FileTree_stocks.b .nil pass0)) (pg_name (i := 4) nd rfl (.inl rfl))
            (pss_one (ps_dput (hu_of hr) (pv 1) (pe_tup (pa_cons (pv 2) <| pa_cons (pe_fld (pv 4) rfl) pa_nil)) (pe_callB call_len_seq (by rfl) E.u_len PySem.boot_len (pa_cons (pe_fld (pv 4) rfl) pa_nil)) rfl))))))
      <| pss_one (ps_ret (pv 1)), ?_⟩
    intro C hC
    have sm1 : Same H (upd H C (.dT [])) := same_new hC
    have c1 : (upd H C (.dT [])) C = some (.dT []) := upd_same
    generalize upd H C (.dT []) = H1 at sm1 c1 ⊢
    have nCD : C ≠ D := (ne_of_none hD hC).symm
    have nspD : sp ≠ D := by
      rintro rfl
      rw [hsp] at hD
      cases hD
    refine ⟨D, .dK (dtk fs tvs), sm1 _ _ hD, trivial, fun od => ?_⟩
    have lk : ∀ z o, H z = some o → z ≠ D → upd H1 D (.frz od (.dK (dtk fs tvs))) z = some o := fun z o e n => by
      rw [upd_ne n]
      exact sm1 _ _ e
    refine ⟨_, rfl, sp, _, dx, _, _, rfl, lk _ _ hsp nspD, E.C_Sources.c, E.n_Sources_trees, rfl, D, od, dtk fs tvs, rfl, upd_same, ?_⟩
    refine for_it (walk_items (d := D) (o := od) (kvs := dtk fs tvs)) (fun i σ G => ∃ (x2 x3 x4 : Option V) (cvs : List (List Key × V)), σ = [some (.ref sp), some (.ref C), x2, x3, x4] ∧ (∀ z o, H z = some o → z ≠ D → G z = some o) ∧ G D = some (.frz od (.dK (dtk fs tvs))) ∧ G C = some (.dT cvs) ∧ AllZ cvs ∧ cvs.length ≤ 20 * i)
      ⟨none, none, none, [], rfl, lk, upd_same, (upd_ne nCD).trans c1, fun _ h => (nomatch h), Nat.le_refl _⟩ (fun i σ G _ ⟨_, _, _, _, _, _, s, _⟩ => s) ?_ ?_
    · rintro i v σ G G' hi ⟨x2, x3, x4, cvs, rfl, keep, gD, gC, az, lc⟩ ⟨T, x, y, rfl, hT, rfl, hx, hy⟩
      obtain ⟨kv, e1⟩ : ∃ kv, (dtk fs tvs)[i]? = some kv := ⟨_, List.getElem?_eq_getElem hi⟩
      dsimp only at hx hy
      rw [e1] at hx hy
      cases hx
      cases hy
      obtain ⟨kk, vv⟩ := kv
      obtain ⟨f, hf, hv, rfl⟩ := dtk_get e1
      obtain ⟨f', hf', r⟩ := ra.getL hv
      rw [hf] at hf'
      cases hf'
      have hm := List.mem_of_getElem? hf
      have il : i < fs.length := (List.getElem?_eq_some_iff.mp hf).1
      have l6 := gd.len
      have smT : Same G (upd G T (.tup [kV (.inr f.f), vv])) := same_new hT
      have tT : (upd G T (.tup [kV (.inr f.f), vv])) T = some (.tup [kV (.inr f.f), vv]) := upd_same
      have keep2 : ∀ z o, H z = some o → z ≠ D → (upd G T (.tup [kV (.inr f.f), vv])) z = some o := fun z o e n => smT _ _ (keep z o e n)
      have gD2 := smT _ _ gD
      have gC2 := smT _ _ gC
      show gTup _ _ _ _ _ (upd G T (.tup [kV (.inr f.f), vv])) _
      generalize upd G T (.tup [kV (.inr f.f), vv]) = G2 at tT keep2 gD2 gC2 ⊢
      let Hm : Hp := fun b => if b = D then none else G2 b
      have stm : St Ho Hm := fun b o e => by
        have nb : b ≠ D := ne_of_none e hoD
        obtain ⟨u, h1, h2⟩ := st0 b o e
        exact ⟨u, (if_neg nb).trans (keep2 b u h1 nb), h2⟩
      have smm : Same Hm G2 := fun b o e => by
        by_cases nb : b = D
        · rw [show Hm b = none from if_pos nb] at e
          cases e
        · rw [show Hm b = G2 b from if_neg nb] at e
          exact e
      have rm := r.st stm
      obtain ⟨tp, td, li, ld, ivs, dvs, e2, htp, _⟩ := rm.tree
      subst e2
      refine ⟨T, _, rfl, SqT.of tT, rfl, ?_⟩
      refine ⟨_, _, rfl, _, _, rfl, rfl, ?_⟩
      refine ⟨_, rfl, tp, td, _, rfl, smm _ _ htp, rfl, Hm, .ref tp, f, rfl, smm, rm, Nat.le_trans (gd.few f hm).2 (by decide), fun G3 v3 ⟨S, xs, ev3, n3, e3, rs, sm3⟩ => ?_⟩
      subst ev3
      have sl : (stks f.ds).length ≤ 20 := Nat.le_trans (List.length_filterMap_le _ _) (gd.few f hm).2
      have nSC : S ≠ C := (ne_of_none gC2 n3).symm
      refine ⟨S, rfl, ⟨_, SqL.of e3⟩, ?_⟩
      refine for_it (walk_list (K := K) (a := S) (xs := xs)) (fun j σ G => ∃ (x4 : Option V) (cvs : List (List Key × V)), σ = [some (.ref sp), some (.ref C), some (.str f.f), some (.ref tp), x4] ∧ (∀ z o, z ≠ C → G3 z = some o → G z = some o) ∧ G C = some (.dT cvs) ∧ AllZ cvs ∧ cvs.length ≤ 20 * i + j)
        ⟨x4, cvs, rfl, fun _ _ _ e => e, sm3 _ _ gC2, az, lc⟩ (fun j σ G _ ⟨_, _, _, k, _⟩ => SqL.of (k _ _ nSC e3)) ?_ ?_
      · rintro j v σ G4 G5 hj ⟨y4, cv, rfl, k4, g4, a4, l4⟩ ⟨rfl, hv⟩
        obtain ⟨sk, hs, kp, kd, lcp, lg, cvs', rfl, hkp, hlc, rc, hlg⟩ := rs.getL hv
        have jl : j < (stks f.ds).length := (List.getElem?_eq_some_iff.mp hs).1
        have nC : ∀ {a : Addr} {o : HO}, Hm a = some o → o ≠ .dT cvs → a ≠ C := by
          rintro a o e ne rfl
          have := smm _ _ e
          rw [gC2] at this
          cases this
          exact ne rfl
        have hkp4 := k4 _ _ (nC hkp (fun z => nomatch z)) (sm3 _ _ (smm _ _ hkp))
        have hlg4 := k4 _ _ (nC hlg (fun z => nomatch z)) (sm3 _ _ (smm _ _ hlg))
        refine ⟨_, rfl, kp, _, kd, _, _, rfl, hkp4, E.C_Stock.c, E.n_Stock_goods, rfl, lg, [], rfl, .inl (SqL.of hlg4), ?_⟩
        refine ⟨_, rfl, _, rfl, _, rfl, kp, _, kd, _, _, rfl, hkp4, E.C_Stock.c, E.n_Stock_name, rfl, by show 2 ≤ sizeLine; decide, fun Z hZ => ?_⟩
        have smZ : ∀ b o, _ → (upd _ Z (.tup [.str f.f, .str sk.m.n])) b = some o := fun b o e => same_new hZ b o e
        refine ⟨C, _, rfl, DPut.t (k := [.inr f.f, .inr sk.m.n]) (smZ _ _ g4) upd_same (small1000 (by omega)), ?_⟩
        have pl := length_putK cv [Sum.inr f.f, Sum.inr sk.m.n] (.int (([] : List V).length : Nat))
        exact ⟨_, _, rfl, fun z o n e => by rw [upd_ne n]; exact smZ _ _ (k4 z o n e), upd_same, a4.put _, by omega⟩
      · rintro σ G4 ⟨y4, cv, rfl, k4, g4, a4, l4⟩
        have nC : ∀ z o, H z = some o → z ≠ C := fun z o e => ne_of_none e hC
        exact ⟨_, _, _, cv, rfl, fun z o e n => k4 z o (nC z o e) (sm3 _ _ (keep2 z o e n)), k4 _ _ (Ne.symm nCD) (sm3 _ _ gD2), g4, a4, by rw [rs.len] at l4; omega⟩
    · rintro σ G ⟨x2, x3, x4, cvs, rfl, keep, gD, gC, az, lc⟩
      refine ⟨gD, _, rfl, ?_⟩
      have l6 := gd.len
      have dl := dtk_len fs tvs
      refine q _ C cvs (fun b o e => ?_) hC ((upd_ne nCD).trans gC) az (by omega)
      by_cases n : b = D
      · subst n
        rw [hD] at e
        cases e
        exact upd_same
      · rw [upd_ne n]
        exact keep b o e n
end
end V5

set_option maxHeartbeats 400000
/-! Small questions asked of nested tuples that go into a set. -/
namespace NS
open PySem PyProof.Rows L2
section
variable {P : Program} {w : World} {A : Around} {E : Value → Shared → Prop} {s : Shared}
theorem atom_cls {n : Nat} {k : NestedKey} {v : Value} {h : Heap} (x : NestedIs h k v) (hk : ∀ ks, k ≠ .tup ks) : ofAClassStatement n v = pure false := by
  cases x with
  | tup _ _ _ _ => exact absurd rfl (hk _)
  | none => cases n <;> rfl
  | bool _ => cases n <;> rfl
  | int _ _ => cases n <;> rfl
  | text _ _ => cases n <;> rfl
theorem all_mem {h : Heap} : ∀ {ks : List NestedKey} {vs : List Value}, NestedAll h ks vs → ∀ v ∈ vs, ∃ k ∈ ks, NestedIs h k v
  | _, _, .nil, v, hv => (List.not_mem_nil hv).elim
  | _, _, .cons x r, v, hv => by
    rcases List.mem_cons.mp hv with rfl | hv
    · exact ⟨_, List.mem_cons_self, x⟩
    · obtain ⟨k, hk, y⟩ := all_mem r v hv
      exact ⟨k, List.mem_cons_of_mem _ hk, y⟩
theorem dep_mem : ∀ {ks : List NestedKey} {n : Nat}, NestedKey.depthAll ks ≤ n → ∀ k ∈ ks, k.depth ≤ n
  | [], _, _, k, hk => (List.not_mem_nil hk).elim
  | a :: r, n, h, k, hk => by
    rw [NestedKey.depthAll] at h
    rcases List.mem_cons.mp hk with rfl | hk
    · omega
    · exact dep_mem (n := n) (by omega) k hk
/-- no statement's class stands in it -/
theorem cls_no : ∀ (n : Nat) {k : NestedKey} {v : Value} {A : Around} {E : Value → Shared → Prop} {Q : Bool → Shared → Prop}, NestedIs s.heap k v → k.depth ≤ n → Q false s → wpAny (model P w) A (ofAClassStatement n v) Q E s
  | n, k, v, A, E, Q, x, hn, q => by
    by_cases c : ∃ ks, k = .tup ks
    · obtain ⟨ks, rfl⟩ := c
      rw [NestedKey.depth] at hn
      obtain ⟨m, rfl⟩ : ∃ m, n = m + 1 := ⟨n - 1, by omega⟩
      cases x with
      | @tup a o vs j _ hg hc hd hk =>
      unfold ofAClassStatement
      refine wpAny_bind (wpAny_typeOf (T := "tuple") ⟨o, hg, hc⟩ ?_)
      have e : (("tuple" : String) == "tuple") = true := by decide
      simp only [e, if_true, Bool.not_true, Bool.false_eq_true, if_false]
      refine wpAny_bind (wpAny_pure ?_)
      simp only [Bool.not_true, Bool.false_eq_true, if_false]
      show wpAny _ _ (seqItems? (.ref a) >>= _) _ _ s
      refine wpAny_bind (wpAny_seqItems hg hd ?_)
      dsimp only
      refine wpAny_bind ?_
      show wpAny _ _ (forIn vs _ _) _ _ s
      rw [← Array.forIn_toList]
      have ih : ∀ v ∈ vs.toList, ∀ {A : Around} {E : Value → Shared → Prop} {Q : Bool → Shared → Prop}, Q false s → wpAny (model P w) A (ofAClassStatement m v) Q E s := fun v hv A E Q q => by
        obtain ⟨k, hm, y⟩ := all_mem hk v hv
        exact cls_no m y (dep_mem (by omega) k hm) q
      refine wpAny_forIn_list _ (fun rest r s' => r.1 = none ∧ s' = s ∧ ∀ v ∈ rest, v ∈ vs.toList) _ ?_ ?_ _ _ ⟨rfl, rfl, fun v hv => hv⟩
      · rintro v rest r s' ⟨hr, rfl, sub⟩
        refine wpAny_bind (ih v (sub v List.mem_cons_self) ?_)
        simp only [Bool.false_eq_true, if_false]
        exact wpAny_pure ⟨rfl, rfl, fun u hu => sub u (List.mem_cons_of_mem _ hu)⟩
      · rintro ⟨r1, r2⟩ s' ⟨hr, rfl, _⟩
        simp only at hr
        subst hr
        exact wpAny_pure q
    · rw [atom_cls x fun ks e => c ⟨ks, e⟩]
      exact wpAny_pure q
/-- its hash comes from its value, or from the text's secret: either -/
theorem hash_any : ∀ (n : Nat) {k : NestedKey} {v : Value} {A : Around} {E : Value → Shared → Prop} {Q : Bool → Shared → Prop}, NestedIs s.heap k v → k.depth ≤ n → (∀ b, Q b s) → wpAny (model P w) A (hashByValue n v) Q E s
  | n, k, v, A, E, Q, x, hn, q => by
    cases x with
    | none =>
      have e : hashByValue n .none = pure true := by cases n <;> rfl
      rw [e]
      exact wpAny_pure (q _)
    | @bool b _ _ =>
      have e : hashByValue n (.bool b) = pure true := by cases n <;> rfl
      rw [e]
      exact wpAny_pure (q _)
    | int i t =>
      have e : hashByValue n (.int i t) = pure true := by cases n <;> rfl
      rw [e]
      exact wpAny_pure (q _)
    | text y t =>
      have e : hashByValue n (.str y t) = pure false := by cases n <;> rfl
      rw [e]
      exact wpAny_pure (q _)
    | @tup a o vs j ks hg hc hd hk =>
      rw [NestedKey.depth] at hn
      obtain ⟨m, rfl⟩ : ∃ m, n = m + 1 := ⟨n - 1, by omega⟩
      have hT : s.TypeIs (.ref a) "tuple" := ⟨o, hg, hc⟩
      unfold hashByValue
      refine wpAny_bind (wpAny_specialOf hT F.slot_tuple_hash.lookup ?_)
      show wpAny _ _ (seqItems? (.ref a) >>= _) _ _ s
      refine wpAny_bind (wpAny_seqItems hg hd ?_)
      refine wpAny_bind ?_
      show wpAny _ _ (forIn vs _ _) _ _ s
      rw [← Array.forIn_toList]
      have ih : ∀ v ∈ vs.toList, ∀ {A : Around} {E : Value → Shared → Prop} {Q : Bool → Shared → Prop}, (∀ b, Q b s) → wpAny (model P w) A (hashByValue m v) Q E s := fun v hv A E Q q => by
        obtain ⟨k, hm, y⟩ := all_mem hk v hv
        exact hash_any m y (dep_mem (by omega) k hm) q
      refine wpAny_forIn_list _ (fun rest r s' => r.1 = none ∧ s' = s ∧ ∀ v ∈ rest, v ∈ vs.toList) _ ?_ ?_ _ _ ⟨rfl, rfl, fun v hv => hv⟩
      · rintro v rest r s' ⟨hr, rfl, sub⟩
        refine wpAny_bind (ih v (sub v List.mem_cons_self) fun b => ?_)
        cases b with
        | false =>
          simp only [Bool.not_false, if_true]
          exact wpAny_pure (wpAny_pure (q _))
        | true =>
          simp only [Bool.not_true, Bool.false_eq_true, if_false]
          exact wpAny_pure ⟨rfl, rfl, fun u hu => sub u (List.mem_cons_of_mem _ hu)⟩
      · rintro ⟨r1, r2⟩ s' ⟨hr, rfl, _⟩
        simp only at hr
        subst hr
        exact wpAny_pure (q _)
end
section
variable {P : Program} {w : World} {A : Around} {E : Value → Shared → Prop} {s : Shared}
/-- the tuple at b is the key k -/
abbrev KAt (P : Program) (w : World) (h : Heap) (k : NestedKey) (b : Addr) : Prop := (nestedKind P w).is h k b
/-- a look for x among such tuples can't be seen -/
theorem seen_no {k : NestedKey} {b : Addr} {Q : Bool → Shared → Prop} (hk : KAt P w s.heap k b) {ys : List Value} (hy : ∀ y ∈ ys, ∃ c k', y = Value.ref c ∧ KAt P w s.heap k' c) (q : Q false s) :
    wpAny (model P w) A (searchCouldBeSeen (.ref b) ys) Q E s := by
  unfold searchCouldBeSeen
  refine wpAny_bind ?_
  refine wpAny_forIn_list _ (fun rest r s' => r.1 = none ∧ s' = s ∧ ∀ y ∈ rest, y ∈ ys) _ ?_ ?_ _ _ ⟨rfl, rfl, fun y h => h⟩
  · rintro v rest r s' ⟨hr, rfl, sub⟩
    obtain ⟨c, k', rfl, hc⟩ := hy v (sub v List.mem_cons_self)
    have more : ∀ y ∈ rest, y ∈ ys := fun u hu => sub u (List.mem_cons_of_mem _ hu)
    dsimp only
    by_cases hv : (b == c || (carriedByValue (.ref b) && carriedByValue (.ref c))) = true
    · exact wp_if_pos hv (wpAny_pure ⟨rfl, rfl, more⟩)
    · refine wp_if_neg hv (wpAny_bind ((nestedKind P w).quiet hk ?_))
      simp only [Bool.not_true, Bool.false_eq_true, if_false]
      refine wpAny_bind ((nestedKind P w).quiet hc ?_)
      simp only [Bool.not_true, Bool.false_eq_true, if_false]
      refine wpAny_bind (cls_no 8 hk.1 hk.2 ?_)
      simp only [Bool.false_eq_true, if_false]
      refine wpAny_bind (cls_no 8 hc.1 hc.2 ?_)
      simp only [Bool.false_eq_true, if_false]
      exact wpAny_pure ⟨rfl, rfl, more⟩
  · rintro ⟨r1, r2⟩ s' ⟨hr, rfl, _⟩
    simp only at hr
    subst hr
    exact wpAny_pure q
/-! ### a set of nested tuples -/
abbrev hk (w : World) (p : Addr × NestedKey) : Int := p.2.hash w
/-- what stands in the table for the keys L -/
def rows (w : World) (L : List (Addr × NestedKey)) : List (Int × Value) := L.map fun p => (hk w p, Value.ref p.1)
structure Tab (P : Program) (w : World) (h : Heap) (a : Addr) (L : List (Addr × NestedKey)) (o : Obj) (es : Array (Int × Value)) (ep : Nat) (t : SetTable) : Prop where
  ho : h.get? a = some o
  hx : o.ExactSet
  hd : o.data = .set es ep t
  hr : es.toList = rows w L
  ht : TabOk t (L.map (hk w))
  nd : (L.map (·.2)).Nodup
  ks : ∀ p ∈ L, KAt P w h p.2 p.1
  fill : L.length * 5 < t.mask * 3
  few : L.length < 64
variable {a : Addr} {L : List (Addr × NestedKey)} {o : Obj} {es : Array (Int × Value)} {ep : Nat} {t : SetTable}
theorem Tab.size (T : Tab P w s.heap a L o es ep t) : es.size = L.length := by
  have := congrArg List.length T.hr
  rwa [Array.length_toList, rows, List.length_map] at this
theorem Tab.placed (T : Tab P w s.heap a L o es ep t) : t.place.size = L.length := by
  have := T.ht.sz
  rwa [List.length_map] at this
theorem fits_of {n : Nat} (h1 : t.place.size = n) (h2 : t.dummies = #[]) (h3 : n ≤ t.mask) : t.fits n = true := by
  unfold SetTable.fits SetTable.fill
  rw [h1, h2, Bool.and_eq_true, beq_iff_eq, decide_eq_true_eq]
  exact ⟨rfl, h3⟩
theorem Tab.fits (T : Tab P w s.heap a L o es ep t) : t.fits es.size = true := by
  have := T.fill
  rw [T.size]
  exact fits_of T.placed T.ht.dm (by omega)
theorem Tab.row (T : Tab P w s.heap a L o es ep t) {i : Nat} {p : Addr × NestedKey} (h : L[i]? = some p) : es[i]? = some (hk w p, Value.ref p.1) := by
  have e : es[i]? = es.toList[i]? := (Array.getElem?_toList ..).symm
  rw [e, T.hr, rows, List.getElem?_map, h]
  rfl
theorem Tab.own (T : Tab P w s.heap a L o es ep t) : ¬ t.gaveWay = true := by
  unfold SetTable.gaveWay
  have := mask_odd T.ht.mok
  simp [this]
end
end NS

set_option maxHeartbeats 400000
/-! Looking a nested tuple up in a set of such. -/
namespace NS
open PySem PyProof.Rows L2
section
variable {P : Program} {w : World} {A : Around} {E : Value → Shared → Prop} {s : Shared}
variable {a : Addr} {L : List (Addr × NestedKey)} {o : Obj} {es : Array (Int × Value)} {ep : Nat} {t : SetTable}
/-- where the look for the hash h is after c steps -/
def step (m : Nat) (h : Int) (c : Nat) : SetTable.Probe := nth m (runAt m (SetTable.bits h % (m + 1)) (SetTable.bits h)) c
theorem step_add (m : Nat) (h : Int) (c q : Nat) : nth m (step m h c) q = step m h (c + q) := (nth_add m c _ q).symm
theorem step_way (m : Nat) (h : Int) (c : Nat) : (step m h c).j = way m h c := rfl
theorem nth_clean (m : Nat) : ∀ (n : Nat) (p : SetTable.Probe), p.dummy = none → (nth m p n).dummy = none
  | 0, _, h => h
  | n + 1, p, h => by
    refine nth_clean m n (adv m p) ?_
    unfold adv
    split <;> exact h
theorem step_clean (m : Nat) (h : Int) (c : Nat) : (step m h c).dummy = none := nth_clean m c _ rfl
theorem live_inj (r : Ris t.place.toList) {i i' j : Nat} (h : t.place.toList[i]? = some j) (h' : t.place.toList[i']? = some j) : i = i' := by
  have e := (slot_live r h).symm.trans (slot_live r h')
  injection e
/-- what is behind a candidate whose key is p's -/
theorem behind (T : Tab P w s.heap a L o es ep t) {x : Addr} {k : NestedKey} (hx : KAt P w s.heap k x) (hu : A.units + 8 < cLine) {i j f : Nat} {p : Addr × NestedKey} {nx : SetTable.Probe} {Q : SetFound → Shared → Prop}
    (hp : L[i]? = some p) (hj : t.place.toList[i]? = some j) (yes : p.2 = k → Q (.there none) s) (no : p.2 ≠ k → wpAny (model P w) A (setSearchFrom a (.ref x) (k.hash w) true f (some nx)) Q E s) :
    wpAny (model P w) A (searchRest a (.ref x) (k.hash w) true f es t j i nx) Q E s := by
  unfold searchRest
  rw [T.row hp]
  dsimp only
  refine wpAny_bind (wpAny_holding ((nestedKind P w).eqBool hu (T.ks p (List.mem_of_getElem? hp)) hx ?_))
  refine wpAny_bind (wpAny_setState_of T.ho T.hd T.fits ?_)
  dsimp only
  by_cases e : p.2 = k
  · exact wp_if_pos (by simp [e]) (wpAny_pure (yes e))
  · refine wp_if_neg (by simp [e]) ?_
    rw [sameMem]
    dsimp only
    simp only [if_true, slot_live T.ht.ris hj, T.row hp]
    refine wpAny_bind (wpAny_isSame_ref_self (wpAny_bind (wpAny_pure ?_)))
    simp only [if_true]
    exact wp_if_neg (by simp [e]) (no e)
theorem look (T : Tab P w s.heap a L o es ep t) {x : Addr} {k : NestedKey} (hx : KAt P w s.heap k x) (hu : A.units + 8 < cLine) {K : Nat} (lim : K < 10 * SetTable.turns t.mask)
    (free : way t.mask (k.hash w) K ∉ t.place.toList) (full : ∀ c, c < K → way t.mask (k.hash w) c ∈ t.place.toList) {Q : SetFound → Shared → Prop}
    (yes : k ∈ L.map (·.2) → Q (.there none) s) (no : k ∉ L.map (·.2) → Q (.free (way t.mask (k.hash w) K) false) s) :
    ∀ (f c : Nat) (from_ : Option SetTable.Probe), from_.getD (t.probeStart (k.hash w)) = step t.mask (k.hash w) c → c ≤ K → K < c + f →
      (∀ (i : Nat) p, L[i]? = some p → p.2 = k → ∃ c', c ≤ c' ∧ c' < K ∧ t.place.toList[i]? = some (way t.mask (k.hash w) c')) →
      wpAny (model P w) A (setSearchFrom a (.ref x) (k.hash w) true f from_) Q E s
  | 0, c, _, _, h1, h2, _ => absurd h2 (by omega)
  | f + 1, c, from_, at_, h1, h2, ahead => by
    rw [setSearchFrom_succ]
    refine wpAny_bind (wpAny_setState_of T.ho T.hd T.fits ?_)
    dsimp only
    refine wp_if_neg T.own ?_
    have hashes : ∀ (i : Nat) p, L[i]? = some p → (fun i => (es[i]?.map (·.1)).getD 0) i = hk w p := fun i p hp => by
      show (es[i]?.map (·.1)).getD 0 = _
      rw [T.row hp]
      rfl
    have inL : ∀ {i j : Nat}, t.place.toList[i]? = some j → ∃ p, L[i]? = some p := fun {i j} h => by
      have h1 := (List.getElem?_eq_some_iff.mp h).1
      rw [Array.length_toList, T.placed] at h1
      exact ⟨_, List.getElem?_eq_getElem h1⟩
    have wj : ∀ q, (nth t.mask (step t.mask (k.hash w) c) q).j = way t.mask (k.hash w) (c + q) := fun q => by rw [step_add, step_way]
    rcases go_spec t T.ht.ris T.ht.dm (fun i => (es[i]?.map (·.1)).getD 0) (k.hash w) (10 * SetTable.turns t.mask) (K - c) (step t.mask (k.hash w) c) (step_clean ..) (by omega)
      (fun q hq => by rw [wj]; exact full _ (by omega)) (by rw [wj, show c + (K - c) = K by omega]; exact free) with ⟨q, i, hq, hi, hh, clear_, go⟩ | ⟨clear_, go⟩
    · have e : t.probe (fun i => (es[i]?.map (·.1)).getD 0) (k.hash w) (from_.getD (t.probeStart (k.hash w))) = some (.candidate (way t.mask (k.hash w) (c + q)) i (step t.mask (k.hash w) (c + (q + 1)))) := by
        rw [at_, ← wj, ← step_add]
        exact go
      rw [e]
      dsimp only
      rw [wj] at hi
      obtain ⟨p, hp⟩ := inL hi
      have on : wpAny (model P w) A (searchRest a (.ref x) (k.hash w) true f es t (way t.mask (k.hash w) (c + q)) i (step t.mask (k.hash w) (c + (q + 1)))) Q E s := by
        refine behind T hx hu hp hi (fun e => yes (List.mem_map.mpr ⟨p, List.mem_of_getElem? hp, e⟩)) fun ne => ?_
        refine look T hx hu lim free full yes no f (c + (q + 1)) _ rfl (by omega) (by omega) fun i0 p0 h0 e0 => ?_
        obtain ⟨c', g1, g2, g3⟩ := ahead i0 p0 h0 e0
        refine ⟨c', ?_, g2, g3⟩
        rcases Nat.lt_trichotomy c' (c + q) with z | z | z
        · refine absurd ((hashes i0 p0 h0).trans (congrArg (NestedKey.hash w) e0)) ?_
          refine clear_ (c' - c) i0 (by omega) ?_
          rw [wj, show c + (c' - c) = c' by omega]
          exact g3
        · rw [z] at g3
          have ei := live_inj T.ht.ris g3 hi
          rw [ei, hp] at h0
          exact absurd ((congrArg Prod.snd (Option.some.inj h0)).trans e0) ne
        · omega
      by_cases hl : t.led = true
      · exact wp_if_neg (by simp [hl]) on
      · refine wp_if_pos (by simp [hl]) (wpAny_bind (seen_no hx (fun y hy => ?_) (wp_if_neg (by decide) on)))
        obtain ⟨r, hr, rfl⟩ := List.mem_map.mp hy
        have hr : r ∈ es.toList := by
          have : r ∈ es ∧ r.1 = k.hash w := by simpa using hr
          simpa using this.1
        rw [T.hr] at hr
        obtain ⟨p2, m2, rfl⟩ := List.mem_map.mp hr
        exact ⟨p2.1, p2.2, rfl, T.ks p2 m2⟩
    · have e : t.probe (fun i => (es[i]?.map (·.1)).getD 0) (k.hash w) (from_.getD (t.probeStart (k.hash w))) = some (.empty (way t.mask (k.hash w) K) none) := by
        have ek : way t.mask (k.hash w) K = (nth t.mask (step t.mask (k.hash w) c) (K - c)).j := by rw [wj, show c + (K - c) = K by omega]
        rw [at_, ek]
        exact go
      rw [e]
      dsimp only
      refine wpAny_pure (no fun hm => ?_)
      obtain ⟨p0, m0, e0⟩ := List.mem_map.mp hm
      obtain ⟨i0, l0, g0⟩ := List.getElem_of_mem m0
      have h0 : L[i0]? = some p0 := by rw [List.getElem?_eq_getElem l0, g0]
      obtain ⟨c', g1, g2, g3⟩ := ahead i0 p0 h0 e0
      refine clear_ (c' - c) i0 (by omega) ?_ ((hashes i0 p0 h0).trans (congrArg (NestedKey.hash w) e0))
      rw [wj, show c + (c' - c) = c' by omega]
      exact g3
/-- as adding asks -/
theorem look_add (T : Tab P w s.heap a L o es ep t) {x : Addr} {k : NestedKey} (hx : KAt P w s.heap k x) (hu : A.units + 8 < cLine) {Q : SetFound → Shared → Prop}
    (yes : k ∈ L.map (·.2) → Q (.there none) s)
    (no : ∀ K, k ∉ L.map (·.2) → way t.mask (k.hash w) K ∉ t.place.toList → (∀ c, c < K → way t.mask (k.hash w) c ∈ t.place.toList) → Q (.free (way t.mask (k.hash w) K) false) s) :
    wpAny (model P w) A (setSearch a (.ref x) (k.hash w) true) Q E s := by
  have fl := T.fill
  obtain ⟨K, lim, free, full⟩ := T.ht.first (by rw [List.length_map]; omega) (k.hash w)
  have big : K < 100000 := by
    have : 10 * SetTable.turns t.mask ≤ 1420 := by
      unfold SetTable.turns
      rcases T.ht.mok with e | e | e <;> omega
    omega
  unfold setSearch
  refine look T hx hu lim free full yes (fun h => no K h free full) 100000 0 none rfl (Nat.zero_le _) (by omega) fun i p hp e => ?_
  have hh : (L.map (hk w))[i]? = some (k.hash w) := by rw [List.getElem?_map, hp, ← e]; rfl
  have il : i < t.place.toList.length := by
    have := (List.getElem?_eq_some_iff.mp hp).1
    rw [Array.length_toList, T.placed]
    exact this
  have hj := List.getElem?_eq_getElem il
  obtain ⟨c, hc, ec⟩ := T.ht.before free hh hj
  exact ⟨c, Nat.zero_le _, hc, by rw [hj, ec]⟩
end
end NS

set_option maxHeartbeats 400000
/-! Adding a nested tuple to a set of such. -/
namespace NS
open PySem PyProof.Rows L2
section
variable {P : Program} {w : World} {A : Around} {E : Value → Shared → Prop} {s : Shared}
variable {a : Addr} {L : List (Addr × NestedKey)} {o : Obj} {es : Array (Int × Value)} {ep : Nat} {t : SetTable}
theorem stays {h h' : Heap} {k : NestedKey} {b : Addr} (x : KAt P w h k b) (keep : ∀ c o, h.get? c = some o → h'.get? c = some o) : KAt P w h' k b :=
  ⟨NestedIs.at (fun c o _ _ e _ => keep c o e) _ _ x.1, x.2⟩
/-- a write to the set leaves the tuples -/
theorem apart {h h' : Heap} {k : NestedKey} {b : Addr} (x : KAt P w h k b) (ho : h.get? a = some o) (hd : o.data = .set es ep t) (sb : Heap.SameBut a h h') : KAt P w h' k b :=
  ⟨NestedIs.at (fun c o' _ _ e e2 => by
    refine (sb.2 c fun z => ?_).trans e
    subst z
    rw [ho] at e
    cases e
    rw [hd] at e2
    cases e2) _ _ x.1, x.2⟩
theorem all_there {α : Type} (L : List α) : ∀ n, n ≤ L.length → (List.range n).filterMap (fun i => L[i]?) = L.take n
  | 0, _ => rfl
  | n + 1, h => by
    rw [List.range_succ, List.filterMap_append, all_there L n (by omega), List.take_add_one]
    have e : L[n]? = some L[n] := List.getElem?_eq_getElem h
    rw [e, List.filterMap_cons_some e]
    rfl
/-- the rows in another order -/
theorem reorder (hr : es.toList = rows w L) {od : Array Nat} (hp : od.toList.Perm (List.range L.length)) :
    ∃ M, (od.filterMap (es[·]?)).toList = rows w M ∧ M.Perm L ∧ M.map (hk w) = od.toList.map fun i => (es.map (·.1)).getD i 0 := by
  have row : ∀ i, es[i]? = (L[i]?).map fun p => (hk w p, Value.ref p.1) := fun i => by
    have e : es[i]? = es.toList[i]? := (Array.getElem?_toList ..).symm
    rw [e, hr, rows, List.getElem?_map]
  have inb : ∀ i ∈ od.toList, i < L.length := fun i hi => List.mem_range.mp (hp.mem_iff.mp hi)
  refine ⟨od.toList.filterMap fun i => L[i]?, ?_, ?_, ?_⟩
  · have e1 : (od.filterMap (es[·]?)).toList = od.toList.filterMap fun i => es[i]? := by simp
    rw [e1, rows, List.map_filterMap]
    exact congrArg (fun f => List.filterMap f od.toList) (funext row)
  · have := hp.filterMap fun i => L[i]?
    rwa [all_there L _ (Nat.le_refl _), List.take_length] at this
  · rw [List.map_filterMap]
    generalize od.toList = l at inb
    induction l with
    | nil => rfl
    | cons i l ih =>
      have hi := inb i List.mem_cons_self
      have e : L[i]? = some L[i] := List.getElem?_eq_getElem hi
      have e2 : (L[i]?).map (hk w) = some (hk w L[i]) := by rw [e]; rfl
      rw [List.filterMap_cons_some (f := fun x => Option.map (hk w) L[x]?) e2, List.map_cons, ih fun j hj => inb j (List.mem_cons_of_mem _ hj)]
      congr 1
      have e3 : (es.map (·.1))[i]? = some (hk w L[i]) := by rw [Array.getElem?_map, row, e]; rfl
      rw [Array.getD_eq_getD_getElem?, e3]
      rfl
/-- the set's table laid anew -/
theorem larger (ho : s.heap.get? a = some o) (hx : o.ExactSet) (hd : o.data = .set es ep t) (hr : es.toList = rows w L) (hp : t.place.size = L.length) (hm : t.dummies = #[]) (hl : L.length ≤ t.mask)
    (nd : (L.map (·.2)).Nodup) (ks : ∀ p ∈ L, KAt P w s.heap p.2 p.1) (few : L.length < 64) {n M : Nat} (e1 : SetTable.sizeAbove n - 1 = M) (e2 : MaskOk M) (e3 : SetTable.sizeAbove n ≤ 128) (e4 : L.length * 5 < M * 3) {Q : Unit → Shared → Prop}
    (q : ∀ h' L' o' es' ep' t', Heap.SameBut a s.heap h' → Tab P w h' a L' o' es' ep' t' → L'.Perm L → Q () { s with heap := h' }) : wpAny (model P w) A (setRelay a n) Q E s := by
  have sz : es.size = L.length := by
    have := congrArg List.length hr
    rwa [Array.length_toList, rows, List.length_map] at this
  obtain ⟨t', od, re, pe, T', m', _, _, _⟩ := relaid_ok t (hs := es.map (·.1)) (wanted := n) e1 e2 (by rw [Array.size_map, sz]; omega)
  rw [Array.size_map, sz] at pe
  obtain ⟨M', r1, r2, r3⟩ := reorder hr pe
  rw [← r3] at T'
  have sz' : (od.filterMap (es[·]?)).size = L.length := by
    have := congrArg List.length r1
    rwa [Array.length_toList, rows, List.length_map, r2.length_eq] at this
  have line : (128 : Nat) ≤ sizeLine := by decide
  rw [setRelay_eq]
  refine wpAny_bind (wpAny_setState_of ho hd (by rw [sz]; exact fits_of hp hm hl) ?_)
  dsimp only
  refine wp_if_neg (by omega) ?_
  rw [re]
  dsimp only
  refine wpAny_bind (wp_if_neg (by rw [sz', sz]; simp) (wpAny_pure ?_))
  dsimp only
  refine wpAny_storeSet_of ho hd ?_ (by rw [sz']; omega)
  have sb : Heap.SameBut a s.heap (s.heap.update a (Obj.putSet (od.filterMap (es[·]?)) t')) := Heap.SameBut.update ..
  exact q _ M' _ _ _ t' sb ⟨store_at ho hd, ⟨hx.1, hx.2.1, hx.2.2⟩, rfl, r1, T', (r2.map (·.2)).nodup_iff.mpr nd, fun p pm => apart (ks p (r2.mem_iff.mp pm)) ho hd sb, by rw [r2.length_eq, m']; exact e4, by rw [r2.length_eq]; exact few⟩ r2
theorem rows_at (p : Nat) (x : Addr) (k : NestedKey) : rows w (L.take p ++ (x, k) :: L.drop p) = (rows w L).take p ++ (k.hash w, Value.ref x) :: (rows w L).drop p := by
  simp [rows, hk]
theorem tab_plain {t : SetTable} {hs : List Int} (T : TabOk t hs) : TabOk { t with plain := false } hs := ⟨T.ris, T.dm, T.sz, T.mok, T.bd, T.reach⟩
theorem put_in (T : Tab P w s.heap a L o es ep t) {x : Addr} {k : NestedKey} (hx : KAt P w s.heap k x) (few : L.length + 1 < 64) (new : k ∉ L.map (·.2)) {K : Nat}
    (free : way t.mask (k.hash w) K ∉ t.place.toList) (full : ∀ c, c < K → way t.mask (k.hash w) c ∈ t.place.toList) {t1 : SetTable} {p : Nat} (put : t.put (way t.mask (k.hash w) K) = (t1, p)) {t2 : SetTable} (h2 : t2 = t1 ∨ t2 = { t1 with plain := false }) {Q : Bool → Shared → Prop}
    (q : ∀ h' L' o' es' ep' t', Heap.SameBut a s.heap h' → Tab P w h' a L' o' es' ep' t' → L'.Perm ((x, k) :: L) → Q true { s with heap := h' }) :
    wpAny (model P w) A (storeSet a (SetTable.insertAt es p (k.hash w, .ref x)) t2 >>= fun _ => if (!false && t2.tooFull) = true then (setRelay a (SetTable.grown (es.size + 1)) >>= fun _ => pure true) else pure true) Q E s := by
  obtain ⟨q1, q2, q3, q4, _, _, _, _, q9⟩ := T.ht.put free full
  rw [put] at q1 q3 q4 q9
  simp only at q1 q3 q4 q9
  have le := T.fill
  have pm : (L.take p ++ (x, k) :: L.drop p).Perm ((x, k) :: L) := put_perm L p (x, k)
  have ln : (L.take p ++ (x, k) :: L.drop p).length = L.length + 1 := pm.length_eq
  have er : (SetTable.insertAt es p (k.hash w, Value.ref x)).toList = rows w (L.take p ++ (x, k) :: L.drop p) := by
    rw [SetTable.toList_insertAt, rows_at, T.hr]
  have T1 : TabOk t1 ((L.take p ++ (x, k) :: L.drop p).map (hk w)) := by
    have e : (L.take p ++ (x, k) :: L.drop p).map (hk w) = (L.map (hk w)).take p ++ k.hash w :: (L.map (hk w)).drop p := by simp [hk]
    rw [e, q1]
    exact q3
  have T2 : TabOk t2 ((L.take p ++ (x, k) :: L.drop p).map (hk w)) := by
    rcases h2 with rfl | rfl
    · exact T1
    · exact tab_plain T1
  have m2 : t2.mask = t.mask := by
    rcases h2 with rfl | rfl <;> exact q4
  have f2 : t2.fill = L.length + 1 := by
    rw [List.length_map] at q9
    rcases h2 with rfl | rfl <;> exact q9
  have nd1 : ((L.take p ++ (x, k) :: L.drop p).map (·.2)).Nodup := by
    refine (pm.map (·.2)).nodup_iff.mpr ?_
    rw [List.map_cons]
    exact List.nodup_cons.mpr ⟨new, T.nd⟩
  have sz : (SetTable.insertAt es p (k.hash w, Value.ref x)).size = L.length + 1 := by
    have := congrArg List.length er
    rwa [Array.length_toList, rows, List.length_map, ln] at this
  have line : (128 : Nat) ≤ sizeLine := by decide
  generalize SetTable.insertAt es p (k.hash w, Value.ref x) = es1 at er sz ⊢
  generalize L.take p ++ (x, k) :: L.drop p = L1 at pm ln er T2 nd1
  refine wpAny_bind (wpAny_storeSet_of T.ho T.hd ?_ (by rw [sz]; omega))
  have sb : Heap.SameBut a s.heap (s.heap.update a (Obj.putSet es1 t2)) := Heap.SameBut.update ..
  have ho1 := store_at (es' := es1) (t' := t2) T.ho T.hd
  generalize s.heap.update a (Obj.putSet es1 t2) = h1 at sb ho1 ⊢
  have ks1 : ∀ p ∈ L1, KAt P w h1 p.2 p.1 := fun p hp => by
    rcases List.mem_cons.mp (pm.mem_iff.mp hp) with rfl | hp
    · exact apart hx T.ho T.hd sb
    · exact apart (T.ks p hp) T.ho T.hd sb
  have pl : t2.place.size = L1.length := by
    have := T2.sz
    rwa [List.length_map] at this
  have go : ∀ M, SetTable.sizeAbove (SetTable.grown (L.length + 1)) - 1 = M → MaskOk M → SetTable.sizeAbove (SetTable.grown (L.length + 1)) ≤ 128 → (L.length + 1) * 5 < M * 3 →
      wpAny (model P w) A (setRelay a (SetTable.grown (L.length + 1))) (fun _ s' => wpAny (model P w) A (pure true) Q E s') E { s with heap := h1 } := fun M e1 e2 e3 e4 => by
    refine larger (s := { s with heap := h1 }) ho1 ⟨T.hx.1, T.hx.2.1, T.hx.2.2⟩ rfl er pl T2.dm (by rw [m2]; omega) nd1 ks1 (by omega) e1 e2 e3 (by rw [ln]; exact e4) ?_
    intro h' L' o' es' ep' t' sb' T' pm'
    exact wpAny_pure (q h' L' o' es' ep' t' (sb.trans sb') T' (pm'.trans pm))
  by_cases hf : t2.tooFull = true
  · have full_ : (L.length + 1) * 5 ≥ t2.mask * 3 := by
      unfold SetTable.tooFull at hf
      rw [decide_eq_true_eq, f2] at hf
      exact hf
    have two : L.length = 4 ∨ L.length = 18 := by
      rw [m2] at full_
      rcases T.ht.mok with e | e | e <;> rw [e] at full_ le <;> omega
    refine wp_if_pos (by simp [hf]) (wpAny_bind ?_)
    rw [T.size]
    rcases two with e | e
    · exact go 31 (by rw [e, size_20]) (.inr (.inl rfl)) (by rw [e, size_20]; decide) (by omega)
    · exact go 127 (by rw [e, size_76]) (.inr (.inr rfl)) (by rw [e, size_76]; decide) (by omega)
  · refine wp_if_neg (by simp [hf]) (wpAny_pure ?_)
    refine q h1 L1 _ es1 (ep + 1) t2 sb ⟨ho1, ⟨T.hx.1, T.hx.2.1, T.hx.2.2⟩, rfl, er, T2, nd1, ks1, ?_, by omega⟩ pm
    unfold SetTable.tooFull at hf
    rw [decide_eq_true_eq, f2] at hf
    omega
/-- adding -/
theorem add (T : Tab P w s.heap a L o es ep t) {x : Addr} {k : NestedKey} (hx : KAt P w s.heap k x) (hu : A.units + 8 < cLine) (few : L.length + 1 < 64) {Q : Bool → Shared → Prop}
    (q : ∀ b h' L' o' es' ep' t', Heap.SameBut a s.heap h' → Tab P w h' a L' o' es' ep' t' → (k ∈ L.map (·.2) → L' = L) → (k ∉ L.map (·.2) → L'.Perm ((x, k) :: L)) → Q b { s with heap := h' }) :
    wpAny (model P w) A (setAddHashed a (.ref x) (k.hash w)) Q E s := by
  unfold setAddHashed
  refine wpAny_holding ?_
  rw [show (100000 : Nat) = 99999 + 1 from rfl, setAddHashedIn_succ]
  refine wpAny_bind (wpAny_setState_of T.ho T.hd T.fits ?_)
  dsimp only
  refine wp_if_neg (by simp [byScan, Value.scannable]) ?_
  refine wpAny_bind (look_add T hx hu (fun hm => ?_) fun K new free full => ?_)
  · dsimp only
    exact wpAny_pure (q false s.heap L o es ep t (Heap.SameBut.refl a s.heap) T (fun _ => rfl) fun z => absurd hm z)
  · dsimp only
    refine wpAny_bind (wpAny_setState_of T.ho T.hd T.fits ?_)
    dsimp only
    cases hpt : t.put (way t.mask (k.hash w) K) with
    | mk t1 p =>
    dsimp only
    have fin : ∀ (t2 : SetTable), t2 = t1 ∨ t2 = { t1 with plain := false } → wpAny (model P w) A (storeSet a (SetTable.insertAt es p (k.hash w, .ref x)) t2 >>= fun _ => if (!false && t2.tooFull) = true then (setRelay a (SetTable.grown (es.size + 1)) >>= fun _ => pure true) else pure true) Q E s := fun t2 h2 =>
      put_in T hx few new free full hpt h2 fun h' L' o' es' ep' t' sb T' pm => q true h' L' o' es' ep' t' sb T' (fun z => absurd z new) fun _ => pm
    by_cases hpl : t1.plain = true
    · refine wp_if_pos hpl (wpAny_bind (hash_any 8 hx.1 hx.2 fun b => ?_))
      cases b with
      | true => exact fin t1 (.inl rfl)
      | false => exact fin _ (.inr rfl)
    · exact wp_if_neg hpl (wpAny_bind (wpAny_pure (fin t1 (.inl rfl))))
end
end NS

set_option maxHeartbeats 400000
/-! set(xs) of a list of nested tuples. -/
namespace NS
open PySem PyProof.Rows L2
/-- what has come of the first i of the keys ks -/
structure Come (ks : List (Addr × NestedKey)) (i : Nat) (L : List (Addr × NestedKey)) : Prop where
  sub : ∀ p ∈ L, p ∈ ks.take i
  all : ∀ p ∈ ks.take i, p.2 ∈ L.map (·.2)
  len : L.length ≤ i
theorem Come.step {ks L L' : List (Addr × NestedKey)} {i : Nat} {x : Addr × NestedKey} (c : Come ks i L) (h : ks[i]? = some x) (old : x.2 ∈ L.map (·.2) → L' = L) (new : x.2 ∉ L.map (·.2) → L'.Perm (x :: L)) : Come ks (i + 1) L' := by
  have e : ks.take (i + 1) = ks.take i ++ [x] := by rw [List.take_add_one, h]; rfl
  by_cases z : x.2 ∈ L.map (·.2)
  · rw [old z]
    refine ⟨fun p hp => by rw [e]; exact List.mem_append_left _ (c.sub p hp), fun p hp => ?_, Nat.le_succ_of_le c.len⟩
    rw [e] at hp
    rcases List.mem_append.mp hp with y | y
    · exact c.all p y
    · rw [List.mem_singleton.mp y]
      exact z
  · have pm := new z
    refine ⟨fun p hp => ?_, fun p hp => ?_, by rw [pm.length_eq, List.length_cons]; exact Nat.succ_le_succ c.len⟩
    · rw [e]
      rcases List.mem_cons.mp (pm.mem_iff.mp hp) with rfl | y
      · exact List.mem_append_right _ (List.mem_singleton.mpr rfl)
      · exact List.mem_append_left _ (c.sub p y)
    · rw [(pm.map (·.2)).mem_iff, List.map_cons]
      rw [e] at hp
      rcases List.mem_append.mp hp with y | y
      · exact List.mem_cons_of_mem _ (c.all p y)
      · rw [List.mem_singleton.mp y]
        exact List.mem_cons_self
section
variable {P : Program} {w : World} {A : Around} {E : Value → Shared → Prop} {s : Shared}
theorem Tab.on {h h' : Heap} {a : Addr} {L : List (Addr × NestedKey)} {o : Obj} {es : Array (Int × Value)} {ep : Nat} {t : SetTable} (T : Tab P w h a L o es ep t) (ha : h'.get? a = some o) (hk : ∀ p ∈ L, KAt P w h' p.2 p.1) : Tab P w h' a L o es ep t :=
  ⟨ha, T.hx, T.hd, T.hr, T.ht, T.nd, hk, T.fill, T.few⟩
/-- the model's new set -/
abbrev emp (led : Bool) : Obj := { cls := .type "set", dict := none, data := .set #[] 0 (.fresh 0 0 led) }
theorem tab_new {h : Heap} {a : Addr} {led : Bool} (ho : h.get? a = some (emp led)) : Tab P w h a [] (emp led) #[] 0 (.fresh 0 0 led) where
  ho := ho
  hx := ⟨rfl, rfl, rfl⟩
  hd := rfl
  hr := rfl
  ht := ⟨List.Pairwise.nil, rfl, rfl, .inl rfl, (fun x hx => by cases hx), fun i h j hi => by simp at hi⟩
  nd := List.nodup_nil
  ks := fun p hp => (List.not_mem_nil hp).elim
  fill := by show 0 * 5 < 7 * 3; decide
  few := by show 0 < 64; decide
/-- some set of L at a -/
def Has (P : Program) (w : World) (h : Heap) (a : Addr) (L : List (Addr × NestedKey)) : Prop := ∃ o es ep t, Tab P w h a L o es ep t
/-- the loop that fills it -/
theorem filling {I : Addr} {fp wr : List Addr} {G : Array GenState → Array GenState → Prop} {n : Nat} {Pv : Nat → Value → Prop} {St : Nat → Shared → Prop} {R : Result → Shared → Prop}
    (W : WalksS P w A.in1 I fp wr G n Pv St) (S : Addr) (hS : S ∉ fp) (ks : List (Addr × NestedKey)) (hn : n = ks.length) (few : ks.length < 64) (val : ∀ i v, Pv i v → ∃ p, ks[i]? = some p ∧ v = .ref p.1)
    (h0 : Heap) (k0 : ∀ p ∈ ks, KAt P w h0 p.2 p.1) (hS0 : h0.get? S = none) (hw0 : ∀ b ∈ wr, h0.get? b = none) (hu : A.units + 9 < cLine) :
    ∀ (m i : Nat) (s : Shared) (L : List (Addr × NestedKey)), n - i = m → i ≤ n → St i s → (∀ b o, h0.get? b = some o → s.heap.get? b = some o) → Has P w s.heap S L → Come ks i L →
      (∀ s' L', Moved (S :: wr) G s s' → Has P w s'.heap S L' → Come ks n L' → (∀ b o, h0.get? b = some o → s'.heap.get? b = some o) → R (.ok (.ret .none)) s') →
      codeAny (model P w) A (.builtin "set.update.loop" ⟨[.ref S, .ref I], []⟩) R s := by
  have hSw : S ∉ wr := fun h => hS (W.sub _ h)
  have wider : ∀ b ∈ wr, b ∈ S :: wr := fun b hb => List.mem_cons_of_mem _ hb
  have old : ∀ {s s' : Shared}, Moved wr G s s' → (∀ b o, h0.get? b = some o → s.heap.get? b = some o) → ∀ b o, h0.get? b = some o → s'.heap.get? b = some o := fun hm z b o e =>
    hm.heap b o (fun hb => by rw [hw0 b hb] at e; cases e) (z b o e)
  intro m
  induction m with
  | zero =>
    intro i s L hm hi st kp ⟨o, es, ep, t, T⟩ c q
    obtain rfl : i = n := by omega
    refine codeAny_builtin F.entry_set_update_loop ?_
    rw [Around.under_plainId F.plain_set_update_loop _]
    show wpAny _ A.in1 (pyNext (.ref I) >>= _) _ _ s
    refine wpAny_bind (W.done s _ _ st fun s' mv => ?_)
    show wpAny _ A.in1 (ret Value.none) _ _ s'
    have kp' := old mv kp
    exact wpAny_pure (q s' L (mv.mono wider) ⟨o, es, ep, t, T.on (mv.heap S o hSw T.ho) fun p hp => stays (k0 p (List.mem_of_mem_take (c.sub p hp))) kp'⟩ c kp')
  | succ m ih =>
    intro i s L hm hi st kp ⟨o, es, ep, t, T⟩ c q
    have lt : i < n := by omega
    refine codeAny_builtin F.entry_set_update_loop ?_
    rw [Around.under_plainId F.plain_set_update_loop _]
    show wpAny _ A.in1 (pyNext (.ref I) >>= _) _ _ s
    refine wpAny_bind (W.item i s _ _ lt st fun v s' hP st' mv => ?_)
    obtain ⟨p, hp, rfl⟩ := val i v hP
    have kp' := old mv kp
    have T' : Tab P w s'.heap S L o es ep t := T.on (mv.heap S o hSw T.ho) fun p hp => stays (k0 p (List.mem_of_mem_take (c.sub p hp))) kp'
    have hx : KAt P w s'.heap p.2 p.1 := stays (k0 p (List.mem_of_getElem? hp)) kp'
    show wpAny _ A.in1 (holding [Value.ref p.1] (setAdd S (.ref p.1)) >>= _) _ _ s'
    refine wpAny_bind (wpAny_holding ?_)
    unfold setAdd
    refine wpAny_holding (wpAny_bind ((nestedKind P w).pyHash (show A.in1.units + 8 < cLine by simp only [Around.in1_units]; omega) hx ?_))
    refine add (s := { s' with toks := s'.toks + (nestedKind P w).draws p.2 }) (o := o) (es := es) (ep := ep) (t := t) T' hx (by simp only [Around.in1_units]; omega) (by have := c.len; omega) fun b h' L' o' es' ep' t' sb T2 c1 c2 => ?_
    have kp2 : ∀ b o, h0.get? b = some o → h'.get? b = some o := fun b o e => (sb.2 b (fun z => by rw [z, hS0] at e; cases e)).trans (kp' b o e)
    refine wpAny_pure ⟨plainId_quiet F.plain_set_update_loop _, ih (i + 1) _ L' (by omega) lt (W.frame _ s' _ _ st' (Nat.le_add_right _ _) fun b hb o e => ?_) kp2 ⟨o', es', ep', t', T2⟩ (c.step hp c1 c2) fun s'' L'' mv'' H'' c'' kp'' => ?_⟩
    · rw [sb.2 b fun z => hS (by rw [← z]; exact hb)]
      exact e
    · refine q s'' L'' (Moved.trans W.gtrans ((mv.mono wider).then_heap (Nat.le_add_right _ _) fun b o hb e => ?_) mv'') H'' c'' kp''
      rw [sb.2 b fun z => hb (by rw [z]; exact List.mem_cons_self)]
      exact e
set_option maxHeartbeats 4000000 in
/-- set(xs), by what fills it -/
theorem set_made {l : Addr} {items : Array Value} (Good : Heap → Prop) {Q : Value → Shared → Prop} (calm : A.handled = none) (hl : s.heap.IsList l items)
    (fills : ∀ (led : Bool) (A' : Around) (I : Addr) (s1 : Shared) (R : Result → Shared → Prop), A'.units ≤ A.units + 4 → I = s.heap.objs.size + 1 → s1.heap.get? s.heap.objs.size = some (emp led) → (∀ b o, s.heap.get? b = some o → s1.heap.get? b = some o) →
      (∃ St : Nat → Shared → Prop, WalksS P w A'.in1 I [I, l] [I] (fun a b => b = a) items.size (fun i v => items[i]? = some v) St ∧ St 0 s1) →
      (∀ s', Moved [s.heap.objs.size, I] (fun a b => b = a) s1 s' → Good s'.heap → (∀ b o, s.heap.get? b = some o → s'.heap.get? b = some o) → R (.ok (.ret .none)) s') →
      codeAny (model P w) A' (.builtin "set.update.loop" ⟨[.ref s.heap.objs.size, .ref I], []⟩) R s1)
    (q : ∀ (h' : Heap) (tk : Nat), Good h' → (∀ b o, s.heap.get? b = some o → h'.get? b = some o) → Q (.ref s.heap.objs.size) { s with heap := h', toks := tk }) :
    wpAny (model P w) A (call (.type "set") [.ref l]) Q E s := by
  obtain ⟨c, tl, hmro⟩ := F.called_set.mro
  have hmade := F.called_set.made
  have hsub := F.called_set.sub
  refine wpAny_call (codeAny_of_tree ?_)
  show wpAny _ _ (callAny (.type "set") _) _ _ _
  refine wpAny_pure ⟨Code.quiet_builtin _ (by decide +kernel), codeAny_builtin F.entry_type_call ?_⟩
  rw [Around.under_plain (weight_type_call_type "set" [.ref l] []) rfl]
  have f1 := F.called_set.notType
  have f2 := F.called_set.canCreate
  have f3 := F.typeCall_set_1 (.ref l)
  repeat (any_goals (first | assumption | wp_step))
  generalize hled : (!w.params.followText "set-order") = led
  let N := s.heap.objs.size
  let h1 := s.heap.push (emp led)
  refine codeAny_mono (code_set_led1 (.ref l) (E := E) (Q₁ := fun r z => r = .ref N ∧ z = { s with heap := h1 }) ⟨rfl, by rw [hled]⟩) fun r z hr => ?_
  cases r with
  | error _ => exact hr
  | ok fl =>
  cases fl with
  | ret obj =>
    obtain ⟨rfl, rfl⟩ := hr
    have hN : h1.get? N = some (emp led) := Heap.get?_push_size _ rfl
    have hT : Shared.TypeIs { s with heap := h1 } (.ref N) "set" := ⟨_, hN, rfl⟩
    have g1 := F.called_set.init.lookup
    have g2 := F.called_set.init.bind (.ref N)
    repeat (any_goals (first | assumption | wp_step))
    refine codeAny_mono (codeAny_call_builtin (R := wants (fun r z => r = .none ∧ ∃ h' tk, z = { s with heap := h', toks := tk } ∧ Good h' ∧ ∀ b o, s.heap.get? b = some o → h'.get? b = some o) E)
      F.called_set.init.plain F.entry_set_init (check_set_init_1 hT ?_)) fun r z hr => ?_
    · obtain ⟨⟨ocls, odict, odata, oslots⟩, hol, hcl, nl, hdl⟩ := hl
      simp only at hcl hdl
      subst hcl
      subst hdl
      have hol' : h1.get? l = some { cls := .type "list", dict := odict, data := .seq items nl, slots := oslots } := Heap.get?_push_of_some _ hol
      have f4 := F.sub_list_set
      have f5 := F.sub_list_frozenset
      have f6 : (Value.type "list" == Value.type "dict") = false := by decide
      have hl1 : h1.IsList l items := ⟨_, hol', rfl, nl, rfl⟩
      unfold Builtin.«set.__init__» noKeywords Builtin.Frozenset.updateFrom
      generalize hPI : pyIter = PI
      wp_walk
      subst hPI
      refine wpAny_pyIter_list hl1 (wpAny_bind (wpAny_runValue ?_))
      have lt : l < N := Heap.lt_size hol
      have sz1 : h1.objs.size = N + 1 := Heap.size_push ..
      have calm3 : A.in1.in1.in1.handled = none := by simp [calm]
      refine fills led _ _ _ _ (by simp only [Around.in1_units]; omega) sz1 (Heap.get?_push_of_some _ hN) (fun b o e => Heap.get?_push_of_some _ (Heap.get?_push_of_some _ e))
        ⟨_, (Walks.list calm3 _ l (by rw [sz1]; exact Nat.ne_of_lt (Nat.lt_succ_of_lt lt)) items).toS, ⟨⟨_, Heap.get?_push_size _ rfl, rfl, rfl⟩, (hl1.push _)⟩⟩ ?_
      rintro ⟨h', g2, d', tk', os'⟩ mv hs kp
      have e1 : g2 = s.gens := mv.gens
      have e2 : d' = s.drawn := mv.drawn
      have e3 : os' = s.os := mv.os
      subst e1
      subst e2
      subst e3
      show wpAny _ _ _ _ _ _
      exact wpAny_pure (show wpAny _ _ (ret Value.none) _ _ _ from wpAny_pure ⟨rfl, h', tk', rfl, hs, kp⟩)
    · cases r with
      | error _ => exact hr
      | ok fl2 =>
      cases fl2 with
      | ret r2 =>
        obtain ⟨rfl, h', tk, rfl, hs, kp⟩ := hr
        repeat (any_goals (first | assumption | wp_step))
        exact q _ _ hs kp
      | _ => exact hr.elim
  | _ => exact hr.elim
end
end NS

set_option maxHeartbeats 400000
/-! set(xs) of nested tuples, of texts. -/
namespace NS
open PySem PyProof.Rows L2
section
variable {P : Program} {w : World} {A : Around} {E : Value → Shared → Prop} {s : Shared}
/-- set(xs), xs of nested tuples -/
theorem call_set {l : Addr} {items : Array Value} (ks : List (Addr × NestedKey)) {Q : Value → Shared → Prop} (calm : A.handled = none) (hl : s.heap.IsList l items) (it : items.toList = ks.map fun p => Value.ref p.1)
    (k0 : ∀ p ∈ ks, KAt P w s.heap p.2 p.1) (few : ks.length < 64) (hu : A.units + 16 < cLine)
    (q : ∀ (h' : Heap) (tk : Nat) L, Has P w h' s.heap.objs.size L → Come ks ks.length L → (∀ b o, s.heap.get? b = some o → h'.get? b = some o) → Q (.ref s.heap.objs.size) { s with heap := h', toks := tk }) :
    wpAny (model P w) A (call (.type "set") [.ref l]) Q E s := by
  have sz : items.size = ks.length := by
    have := congrArg List.length it
    rwa [Array.length_toList, List.length_map] at this
  have free_ : ∀ b, s.heap.objs.size ≤ b → s.heap.get? b = none := fun b hb => by
    cases e : s.heap.get? b with
    | none => rfl
    | some o => exact absurd (Nat.lt_of_lt_of_le (Heap.lt_size e) hb) (Nat.lt_irrefl _)
  have val : ∀ (i : Nat) (v : Value), items[i]? = some v → ∃ p, ks[i]? = some p ∧ v = .ref p.1 := fun i v hv => by
    have e : items.toList[i]? = some v := (Array.getElem?_toList ..).trans hv
    rw [it, List.getElem?_map] at e
    obtain ⟨p, hp, e⟩ := Option.map_eq_some_iff.mp e
    exact ⟨p, hp, e.symm⟩
  have lt : l < s.heap.objs.size := by
    obtain ⟨o, ho, _⟩ := hl
    exact Heap.lt_size ho
  refine set_made (fun h' => ∃ L, Has P w h' s.heap.objs.size L ∧ Come ks ks.length L) calm hl (fun led A' I s1 R hA hI hN keep walk fin => ?_) fun h' tk ⟨L, h1, h2⟩ k => q h' tk L h1 h2 k
  obtain ⟨St, W, st0⟩ := walk
  subst hI
  refine filling W s.heap.objs.size ?_ ks sz few val s.heap k0 (free_ _ (Nat.le_refl _)) (fun b hb => free_ b (by rw [List.mem_singleton.mp hb]; exact Nat.le_succ _)) (by omega) (items.size - 0) 0 s1 [] (by omega) (Nat.zero_le _) st0 keep ⟨_, _, _, _, tab_new hN⟩
    ⟨fun p hp => (List.not_mem_nil hp).elim, fun p hp => by simp at hp, Nat.le_refl _⟩ fun s' L' mv hs cm kp => fin s' mv ⟨L', hs, by rw [sz] at cm; exact cm⟩ kp
  intro z
  rcases List.mem_cons.mp z with e | e
  · exact absurd e (Nat.ne_of_lt (Nat.lt_succ_self _))
  · exact absurd (List.mem_singleton.mp e) (Nat.ne_of_gt lt)

/-! ### sets of texts -/
structure ComeT (xs : List Str) (i : Nat) (S : Str → Bool) (n : Nat) : Prop where
  mem : ∀ k, S k = true ↔ k ∈ xs.take i
  len : n ≤ i
  nd : n = i ↔ (xs.take i).Nodup
theorem ComeT.step {xs : List Str} {i n : Nat} {S : Str → Bool} {x : Str} (c : ComeT xs i S n) (h : xs[i]? = some x) : ComeT xs (i + 1) (fun k => S k || decide (k = x)) (if S x = true then n else n + 1) := by
  have e : xs.take (i + 1) = xs.take i ++ [x] := by rw [List.take_add_one, h]; rfl
  have len := c.len
  refine ⟨fun k => ?_, ?_, ?_⟩
  · rw [e, List.mem_append, List.mem_singleton, Bool.or_eq_true, c.mem, decide_eq_true_eq]
  · split <;> omega
  · rw [e]
    by_cases z : S x = true
    · rw [if_pos z]
      refine ⟨fun h => by omega, fun h => ?_⟩
      have := (List.nodup_append.mp h).2.2 x ((c.mem x).mp z) x (List.mem_singleton.mpr rfl)
      exact absurd rfl this
    · rw [if_neg z]
      have nx : x ∉ xs.take i := fun h => z ((c.mem x).mpr h)
      rw [show (n + 1 = i + 1) ↔ n = i by omega, c.nd]
      refine ⟨fun h => List.nodup_append.mpr ⟨h, (List.nodup_cons.mpr ⟨List.not_mem_nil, List.nodup_nil⟩), fun a ha b hb e => ?_⟩, fun h => (List.nodup_append.mp h).1⟩
      rw [List.mem_singleton.mp hb] at e
      exact nx (e ▸ ha)
theorem fillingT {I : Addr} {fp wr : List Addr} {G : Array GenState → Array GenState → Prop} {n : Nat} {Pv : Nat → Value → Prop} {St : Nat → Shared → Prop} {R : Result → Shared → Prop}
    (W : WalksS P w A.in1 I fp wr G n Pv St) (S0 : Addr) (hS : S0 ∉ fp) (xs : List Str) (hn : n = xs.length) (few : xs.length + 1 < scanBound) (val : ∀ i v, Pv i v → ∃ x t, xs[i]? = some x ∧ v = .str x t)
    (h0 : Heap) (hS0 : h0.get? S0 = none) (hw0 : ∀ b ∈ wr, h0.get? b = none) :
    ∀ (m i : Nat) (s : Shared) (S : Str → Bool) (c : Nat), n - i = m → i ≤ n → St i s → (∀ b o, h0.get? b = some o → s.heap.get? b = some o) → s.heap.SetOf (strKind P w) S0 S c → ComeT xs i S c →
      (∀ s' S' c', Moved (S0 :: wr) G s s' → s'.heap.SetOf (strKind P w) S0 S' c' → ComeT xs n S' c' → (∀ b o, h0.get? b = some o → s'.heap.get? b = some o) → R (.ok (.ret .none)) s') →
      codeAny (model P w) A (.builtin "set.update.loop" ⟨[.ref S0, .ref I], []⟩) R s := by
  have hSw : S0 ∉ wr := fun h => hS (W.sub _ h)
  have wider : ∀ b ∈ wr, b ∈ S0 :: wr := fun b hb => List.mem_cons_of_mem _ hb
  have old : ∀ {s s' : Shared}, Moved wr G s s' → (∀ b o, h0.get? b = some o → s.heap.get? b = some o) → ∀ b o, h0.get? b = some o → s'.heap.get? b = some o := fun hm z b o e =>
    hm.heap b o (fun hb => by rw [hw0 b hb] at e; cases e) (z b o e)
  intro m
  induction m with
  | zero =>
    intro i s S c hm hi st kp hs cm q
    obtain rfl : i = n := by omega
    refine codeAny_builtin F.entry_set_update_loop ?_
    rw [Around.under_plainId F.plain_set_update_loop _]
    show wpAny _ A.in1 (pyNext (.ref I) >>= _) _ _ s
    refine wpAny_bind (W.done s _ _ st fun s' mv => ?_)
    show wpAny _ A.in1 (ret Value.none) _ _ s'
    obtain ⟨o, es, ep, t, ho, more⟩ := hs
    exact wpAny_pure (q s' S c (mv.mono wider) ⟨o, es, ep, t, mv.heap S0 o hSw ho, more⟩ cm (old mv kp))
  | succ m ih =>
    intro i s S c hm hi st kp hs cm q
    have lt : i < n := by omega
    refine codeAny_builtin F.entry_set_update_loop ?_
    rw [Around.under_plainId F.plain_set_update_loop _]
    show wpAny _ A.in1 (pyNext (.ref I) >>= _) _ _ s
    refine wpAny_bind (W.item i s _ _ lt st fun v s' hP st' mv => ?_)
    obtain ⟨x, t, hx, rfl⟩ := val i v hP
    have kp' := old mv kp
    obtain ⟨o, es, ep, tb, ho, more⟩ := hs
    have hs' : s'.heap.SetOf (strKind P w) S0 S c := ⟨o, es, ep, tb, mv.heap S0 o hSw ho, more⟩
    show wpAny _ A.in1 (holding [Value.str x t] (setAdd S0 (.str x t)) >>= _) _ _ s'
    refine wpAny_bind (wpAny_holding ?_)
    unfold setAdd
    refine wpAny_holding (wpAny_bind ((strKind P w).pyHash (k := x) (strKind_is _ _ _ _) ?_))
    have len := cm.len
    refine wpAny_setAddHashed_of (knd := strKind P w) (s := { s' with toks := s'.toks + 1 }) (strKind_is _ _ _ _) rfl hs' (by omega) fun h' sb hs2 => ?_
    have kp2 : ∀ b o, h0.get? b = some o → h'.get? b = some o := fun b o e => (sb.2 b (fun z => by rw [z, hS0] at e; cases e)).trans (kp' b o e)
    refine wpAny_pure ⟨plainId_quiet F.plain_set_update_loop _, ih (i + 1) _ _ _ (by omega) lt (W.frame _ s' _ _ st' (Nat.le_succ _) fun b hb o e => ?_) kp2 hs2 (cm.step hx) fun s'' S'' c'' mv'' hs'' cm'' kp'' => ?_⟩
    · rw [sb.2 b fun z => hS (by rw [← z]; exact hb)]
      exact e
    · refine q s'' S'' c'' (Moved.trans W.gtrans ((mv.mono wider).then_heap (Nat.le_succ _) fun b o hb e => ?_) mv'') hs'' cm'' kp''
      rw [sb.2 b fun z => hb (by rw [z]; exact List.mem_cons_self)]
      exact e
/-- set(xs), xs of texts -/
theorem call_setT {l : Addr} {items : Array Value} (xs : List Str) {Q : Value → Shared → Prop} (calm : A.handled = none) (hl : s.heap.IsList l items) (it : ∀ (i : Nat) (v : Value), items[i]? = some v → ∃ x t, xs[i]? = some x ∧ v = Value.str x t) (sz : items.size = xs.length) (few : xs.length + 1 < scanBound)
    (q : ∀ (h' : Heap) (tk : Nat) S c, h'.SetOf (strKind P w) s.heap.objs.size S c → ComeT xs xs.length S c → (∀ b o, s.heap.get? b = some o → h'.get? b = some o) → Q (.ref s.heap.objs.size) { s with heap := h', toks := tk }) :
    wpAny (model P w) A (call (.type "set") [.ref l]) Q E s := by
  have free_ : ∀ b, s.heap.objs.size ≤ b → s.heap.get? b = none := fun b hb => by
    cases e : s.heap.get? b with
    | none => rfl
    | some o => exact absurd (Nat.lt_of_lt_of_le (Heap.lt_size e) hb) (Nat.lt_irrefl _)
  have lt : l < s.heap.objs.size := by
    obtain ⟨o, ho, _⟩ := hl
    exact Heap.lt_size ho
  refine set_made (fun h' => ∃ S c, h'.SetOf (strKind P w) s.heap.objs.size S c ∧ ComeT xs xs.length S c) calm hl (fun led A' I s1 R hA hI hN keep walk fin => ?_) fun h' tk ⟨S, c, h1, h2⟩ k => q h' tk S c h1 h2 k
  obtain ⟨St, W, st0⟩ := walk
  subst hI
  refine fillingT W s.heap.objs.size ?_ xs sz few it s.heap (free_ _ (Nat.le_refl _)) (fun b hb => free_ b (by rw [List.mem_singleton.mp hb]; exact Nat.le_succ _)) (items.size - 0) 0 s1 (fun _ => false) 0 (by omega) (Nat.zero_le _) st0 keep ?_
    ⟨fun k => by simp, Nat.le_refl _, by simp⟩ fun s' S' c' mv hs cm kp => fin s' mv ⟨S', c', hs, by rw [sz] at cm; exact cm⟩ kp
  · intro z
    rcases List.mem_cons.mp z with e | e
    · exact absurd e (Nat.ne_of_lt (Nat.lt_succ_self _))
    · exact absurd (List.mem_singleton.mp e) (Nat.ne_of_gt lt)
  · exact ⟨_, #[], 0, _, hN, ⟨rfl, rfl, rfl⟩, rfl, (fun e he => by simp at he), (fun k => by simp), (by decide), (by rfl), rfl⟩
end
end NS

set_option maxHeartbeats 2000000
/-! Whether they are files. -/
namespace V5
open PySem PySem.Spec PyProof.Rows L2 K2

/-- len(set(xs)), xs texts -/
def tLenSetTx (K : PySem.W.Frag) (ta : TE) : TE := fun σ H Q => ta σ H fun x H1 => ∃ (l : Addr) (xs : List Str), x = V.ref l ∧ SqL K H1 l (xs.map V.str) ∧ xs.length + 1 < scanBound ∧ ∀ n : Nat, n ≤ xs.length → (n = xs.length ↔ xs.Nodup) → Q (.int n) H1
theorem strs_at : ∀ {xs : List Str} {us : List Value}, Vals (xs.map V.str) us → ∀ (i : Nat) (v : Value), us[i]? = some v → ∃ x t, xs[i]? = some x ∧ v = Value.str x t
  | [], _, r, i, v, h => by
    cases r
    simp at h
  | x :: xs, _, .cons r1 r2, 0, v, h => by
    obtain ⟨t, rfl⟩ := r1
    cases h
    exact ⟨x, t, rfl, rfl⟩
  | x :: xs, _, .cons r1 r2, i + 1, v, h => strs_at r2 i v h
section
variable {X : Cx}
theorem pe_lenSetTx {a : Expr} {ta : TE} {p p2 q pos : PySem.Pos} (hc : X.calm = true) (hg : Gl X "len") (hm : X.mg "len" = none) (hg2 : Gl X "set") (hm2 : X.mg "set" = none) (ha : PE X a ta)
    (na : starEach [a] X.env = (false, eval a X.env) :: starEach [] X.env := by rfl) : PE X (.Call (.Name "len" p) [.Call (.Name "set" p2) [a] [] q] [] pos) (tLenSetTx X.K ta) := by
  refine ⟨fun pins s σ H Q I h => ?_⟩
  refine Call_ (ld_blt I hg hm PySem.boot_len ?_)
  refine PyProof.Rows.callWith_builtin1 (PyProof.Rows.args_cons ?_ rfl) rfl rfl
  refine Call_ (ld_blt I hg2 hm2 PyProof.Rows.boot_set ?_)
  refine PyProof.Rows.callWith_type1 (PyProof.Rows.args_cons (thn (ha.run pins s σ H _ I h) fun v s1 ⟨x, H1, I1, r1, q1⟩ => PyProof.Rows.args_nil ?_) na) na rfl
  obtain ⟨l, xs, rfl, hl, few, q1⟩ := q1
  cases r1
  obtain ⟨its, rv, pl, hz⟩ := I1.list hl
  refine NS.call_setT xs (I1.ok.hd hc) pl.isList (fun i v e => strs_at rv i v (by rw [← e]; simp)) (by rw [List.size_toArray, ← rv.length, List.length_map]) few fun h' tk S c hs cm keep => ?_
  refine PyProof.Rows.args_nil ?_
  have cl := cm.len
  have cn := cm.nd
  rw [List.take_length] at cn
  obtain ⟨o, es, ep, t, ho, hex, hd, _, _, hb, hf, hn⟩ := hs
  have I2 : Inv X pins σ H1 { s1 with heap := h', toks := tk } := I1.kept keep
  have sb : scanBound = 4096 := rfl
  refine call_len_set ho hex hd hf (by rw [hn]; omega) ⟨.int c, H1, I2.tok _, ⟨_, by rw [hn]⟩, q1 c cl cn⟩
end
def isTx (c : Nat) : Bool := isIn c || (decide (c = 34) || decide (c = 10))
def spText : Sp := fun vs H Q _ => ∃ x : Str, vs = [.str x] ∧ (cp x).length ≤ most ∧ (∀ c ∈ cp x, isTx c = true) ∧ ∀ H', Same H H' → Q (.bl true) H'
def FileOk (p : Str × Str) : Prop := isNm p.1 = true ∧ (cp p.1).length ≤ most ∧ (cp p.2).length ≤ most ∧ ∀ c ∈ cp p.2, isTx c = true
def spFile : Sp := fun vs H Q _ => ∃ (v : V) (p : Str × Str), vs = [v] ∧ RPg H v p ∧ FileOk p ∧ ∀ H', Same H H' → Q (.bl true) H'
def spAre : Sp := fun vs H Q _ => ∃ (F : Addr) (xs : List V) (ps : List (Str × Str)), vs = [.ref F] ∧ H F = some (.tup xs) ∧ A2 (RPg H) xs ps ∧ 1 ≤ ps.length ∧ ps.length ≤ 6 ∧ (∀ p ∈ ps, FileOk p) ∧ (ps.map (·.1)).Nodup ∧ ∀ H', Same H H' → Q (.bl true) H'
theorem all_true (n : Nat) : (List.replicate n true).all id = true := by
  rw [List.all_eq_true]
  intro b hb
  rw [List.eq_of_mem_replicate hb]
  rfl
section
variable {P : Program} {w : World} {K : PySem.W.Frag} {mg : Str → Option Value} {base : Heap}
theorem ok_text (E : Env K mg) : FnOk P w K mg base CX0 2 (f_is_text K) (fd_is_text K) ["value"] spText := by
  obtain ⟨tq, gq⟩ := E.names.quo
  refine E.F_is_text.ok sc_is_text (fun vs H Q E h => ?_) (fun cdv A outer s H vs Q E1 hr h => ?_)
  · obtain ⟨x, rfl, _⟩ := h
    rfl
  · obtain ⟨x, rfl, hz, hx, q⟩ := h
    have nd := sc_is_text.nd
    have GI : FnOk P w K mg base CX0 1 (f_is_inner K) (fd_is_inner K) ["sign"] spInner := ok_inner E.F_is_inner E.names
    refine ⟨_, pss_cons (ps_if (pt_not (pt_val (pe_callB call_isi (by rfl) E.u_isinstance (by decide +kernel) (pa_cons (pv 0) (pa_cons (pe_bltn (v := .ty "str") (by rfl) E.u_str (by decide +kernel) rfl) pa_nil))))) (pss_one (ps_ret pe_bl)) pss_nil)
      <| pss_one (ps_ret (pe_callB (cr_all rfl) (by rfl) E.u_all (by decide +kernel) (pa_cons
          (pe_lc (own := [("sign", 1)]) (g := gName 1) (tt := tYes) rfl nd (pi_str (pv 0)) (blkOk_by (N := ["value", "sign"]) (sc := defScope s_is_text) (by decide +kernel))
            (fun _ _ _ _ _ => pg_name (i := 1) nd rfl (Or.inl rfl)) (fun _ _ _ _ _ => pts_nil)
            (fun _ _ _ _ _ => pe_or (pe_call GI hr (by rfl) E.D_is_inner.g E.D_is_inner.k E.D_is_inner.b .nil pass0 (pa_cons (pv 1) pa_nil)) (pe_or (pe_cmpR op_eq (pv 1) (pe_glob (v := .str "\"") (by rfl) gq ⟨_, rfl⟩) (nomark _)) (pe_one (pe_cmpR op_eq (pv 1) pe_str (nomark _)))))) pa_nil))), ?_⟩
    refine ⟨_, rfl, _, _, _, _, true, rfl, .ty _, .base (.str _), kit_ty (by decide +kernel), _, rfl, iteF ?_⟩
    refine ⟨_, rfl, x, rfl, fun D hD => lc_it (walk_str (z := x)) (fun i G => G = upd H D (.lst ((List.replicate i true).map V.bl))) rfl (fun _ _ _ _ => True.intro) ?_ ?_⟩
    · rintro i v G G' hi rfl ⟨rfl, c, hc, rfl⟩
      have hm : c ∈ cp x := by
        have : (cp x)[i]? = some c := by rw [← cp_get]; exact hc
        exact List.mem_of_getElem? this
      have hin := hx c hm
      have hil : i < x.length := hi
      have lenD : ((List.replicate i true).map V.bl).length < sizeLine := by
        rw [List.length_map, List.length_replicate]
        have := cp_len x
        have m20 : most = 2 ^ 19 := rfl
        exact Nat.lt_of_lt_of_le (show i < 2 ^ 19 by omega) (by decide)
      have fin : upd (upd H D (.lst ((List.replicate i true).map V.bl))) D (.lst ((List.replicate i true).map V.bl ++ [.bl true])) = upd H D (.lst ((List.replicate (i + 1) true).map V.bl)) := by
        rw [upd_upd, List.replicate_succ', List.map_append]
        rfl
      refine ⟨rfl, _, rfl, c, rfl, _, rfl, ?_⟩
      cases h1 : isIn c with
      | true => exact iteT ⟨_, upd_same, lenD, fin⟩
      | false =>
        refine iteF ⟨_, rfl, rfl, _, rfl, ?_⟩
        have hin2 : c = 34 ∨ c = 10 := by
          unfold isTx at hin
          rw [h1] at hin
          simpa using hin
        have ea : decide (V.str ⟨#[c]⟩ = V.str "\"") = decide (c = 34) := by
          rw [show ("\"" : Str) = ⟨#[34]⟩ by decide +kernel]
          by_cases h : c = 34
          · subst h; rfl
          · rw [decide_eq_false h, decide_eq_false (by intro z; cases z; exact h rfl)]
        show if decide (V.str ⟨#[c]⟩ = V.str "\"") = true then _ else _
        rw [ea]
        by_cases h : c = 34
        · rw [decide_eq_true h]
          exact iteT ⟨_, upd_same, lenD, fin⟩
        · have h10 : c = 10 := by omega
          rw [decide_eq_false h]
          refine iteF ⟨_, rfl, rfl, ?_⟩
          have eb : decide (V.str ⟨#[c]⟩ = V.str "\n") = true := by
            rw [h10]
            decide +kernel
          show ∃ acc, _ ∧ _ ∧ _
          refine ⟨_, upd_same, lenD, ?_⟩
          rw [eb]
          exact fin
    · rintro G rfl
      refine ⟨D, _, rfl, SqL.of upd_same, ?_⟩
      rw [all_true]
      exact q _ (same_upd hD)
theorem ok_file (E : Env K mg) : FnOk P w K mg base CX0 3 (f_is_file K) (fd_is_file K) ["value"] spFile := by
  refine E.F_is_file.ok sc_is_file (fun vs H Q E h => ?_) (fun cdv A outer s H vs Q E1 hr h => ?_)
  · obtain ⟨v, p, rfl, _⟩ := h
    rfl
  · obtain ⟨v, ⟨n, x⟩, rfl, ⟨T, rfl, hT⟩, ⟨h1, h2, h3, h4⟩, q⟩ := h
    have GN : FnOk P w K mg base CX0 1 (f_is_name K) (fd_is_name K) ["value"] spName := ok_is_name E
    have GX : FnOk P w K mg base CX0 2 (f_is_text K) (fd_is_text K) ["value"] spText := ok_text E
    refine ⟨_, pss_one (ps_ret (pe_and (pe_callB call_isi (by rfl) E.u_isinstance (by decide +kernel) (pa_cons (pv 0) (pa_cons (pe_bltn (v := .ty "tuple") (by rfl) E.u_tuple (by decide +kernel) rfl) pa_nil)))
      (pe_and (pe_cmpR op_eq (pe_callB call_len_seq (by rfl) E.u_len PySem.boot_len (pa_cons (pv 0) pa_nil)) pe_int (nomark _))
      (pe_and (pe_call GN (hr.mono (by decide)) (by rfl) E.D_is_name.g E.D_is_name.k E.D_is_name.b .nil pass0 (pa_cons (pe_ix ix_tup (pv 0) pe_int (fun _ _ => rfl)) pa_nil))
      (pe_one (pe_call GX hr (by rfl) E.D_is_text.g E.D_is_text.k E.D_is_text.b .nil pass0 (pa_cons (pe_ix ix_tup (pv 0) pe_int (fun _ _ => rfl)) pa_nil))))))), ?_⟩
    refine ⟨_, rfl, _, _, _, _, true, rfl, .ty _, .base (.tup hT), kit_ty (by decide +kernel), _, rfl, iteT ?_⟩
    refine ⟨_, rfl, T, _, rfl, .inr (SqT.of hT), rfl, true, rfl, iteT ?_⟩
    refine ⟨_, rfl, T, _, 0, _, rfl, rfl, SqT.of hT, atI_nat (j := 0) rfl, n, rfl, most_line (by rw [← cp_len]; exact h2), fun H1 sm1 => ?_⟩
    refine ⟨true, by rw [h1], iteT ?_⟩
    exact ⟨_, rfl, T, _, 1, _, rfl, rfl, SqT.of (sm1 _ _ hT), atI_nat (j := 1) rfl, x, rfl, h3, h4, fun H2 sm2 => q H2 fun b o e => sm2 _ _ (sm1 _ _ e)⟩
theorem ok_are (E : Env K mg) : FnOk P w K mg base CX0 4 (f_are_files K) (fd_are_files K) ["value"] spAre := by
  obtain ⟨tn, hN⟩ := E.c_MOST_FILES
  refine E.F_are_files.ok sc_are_files (fun vs H Q E h => ?_) (fun cdv A outer s H vs Q E1 hr h => ?_)
  · obtain ⟨F, xs, ps, rfl, _⟩ := h
    rfl
  · obtain ⟨F, xs, ps, rfl, hF, ra, l1, l6, ok, ndp, q⟩ := h
    have nd := sc_are_files.nd
    have GF : FnOk P w K mg base CX0 3 (f_is_file K) (fd_is_file K) ["value"] spFile := ok_file E
    refine ⟨_, pss_cons (ps_if (PW.pt (pw_or (pt_not (pt_val (pe_callB call_isi (by rfl) E.u_isinstance (by decide +kernel) (pa_cons (pv 0) (pa_cons (pe_bltn (v := .ty "tuple") (by rfl) E.u_tuple (by decide +kernel) rfl) pa_nil)))))
        (pw_or1 (pt_not (pt_chain op_le op_le pe_int (pe_callB call_len_seq (by rfl) E.u_len PySem.boot_len (pa_cons (pv 0) pa_nil)) (pe_glob (v := .int 6) (by rfl) hN ⟨tn, rfl⟩)))))) (pss_one (ps_ret pe_bl)) pss_nil)
      <| pss_cons (ps_if (pt_not (pt_val (pe_callB (cr_all rfl) (by rfl) E.u_all (by decide +kernel) (pa_cons
          (pe_lc (own := [("file", 1)]) (g := gName 1) (tt := tYes) rfl nd (pi_tup (pv 0)) (blkOk_by (N := ["value", "file", "name", "_"]) (sc := defScope s_are_files) (by decide +kernel))
            (fun _ _ _ _ _ => pg_name (i := 1) nd rfl (Or.inl rfl)) (fun _ _ _ _ _ => pts_nil) (fun _ _ _ _ _ => pe_call GF hr (by rfl) E.D_is_file.g E.D_is_file.k E.D_is_file.b .nil pass0 (pa_cons (pv 1) pa_nil))) pa_nil)))) (pss_one (ps_ret pe_bl)) pss_nil)
      <| pss_one (ps_ret (pe_cmpR op_eq (pe_lenSetTx rfl (by rfl) E.u_len (by rfl) E.u_set
          (pe_lc (own := [("name", 2), ("_", 3)]) (g := gTup K 2 (gCons (gName 2) (gCons (gName 3) gNil))) (tt := tYes) rfl nd (pi_tup (pv 0)) (blkOk_by (N := ["value", "file", "name", "_"]) (sc := defScope s_are_files) (by decide +kernel))
            (fun _ _ _ _ _ => pg_tup rfl (pgs_cons (pg_name (i := 2) nd rfl (Or.inl rfl)) (pgs_cons (pg_name (i := 3) nd rfl (Or.inl rfl)) pgs_nil))) (fun _ _ _ _ _ => pts_nil) (fun _ _ _ _ _ => pv 2)))
          (pe_callB call_len_seq (by rfl) E.u_len PySem.boot_len (pa_cons (pv 0) pa_nil)) (nomark _))), ?_⟩
    have lx : xs.length = ps.length := ra.len
    have a1 : decide ((1 : Int) ≤ ((xs.length : Nat) : Int)) = true := decide_eq_true (by omega)
    have a2 : decide (((xs.length : Nat) : Int) ≤ (6 : Int)) = true := decide_eq_true (by omega)
    refine ⟨_, rfl, _, _, _, _, true, rfl, .ty _, .base (.tup hF), kit_ty (by decide +kernel), _, rfl, iteF ?_⟩
    refine ⟨_, rfl, F, xs, rfl, .inr (SqT.of hF), 1, _, rfl, rfl, _, rfl, ite2 (fun _ => ?_) (fun e => absurd a1 e)⟩
    refine ⟨_, _, rfl, rfl, _, rfl, ite2 (fun e => absurd e (by rw [a2]; simp)) (fun _ => ?_)⟩
    refine ⟨_, rfl, F, rfl, ⟨_, SqT.of hF⟩, fun D hD => lc_it (walk_tup (K := K) (a := F) (xs := xs)) (fun i G => Same H G ∧ G D = some (.lst ((List.replicate i true).map V.bl))) ⟨same_new hD, upd_same⟩ (fun i G _ ⟨sm, _⟩ => SqT.of (sm _ _ hF)) ?_ ?_⟩
    · rintro i v G G' hi ⟨sm, gD⟩ ⟨rfl, hiv⟩
      obtain ⟨p, hp, T, rfl, hT⟩ := ra.getL hiv
      have il : i < ps.length := (List.getElem?_eq_some_iff.mp hp).1
      refine ⟨rfl, _, rfl, _, p, rfl, ⟨T, rfl, sm _ _ hT⟩, ok p (List.mem_of_getElem? hp), fun G4 sm4 => ⟨_, sm4 _ _ gD, ?_, ?_, ?_⟩⟩
      · rw [List.length_map, List.length_replicate]
        exact small1000 (by omega)
      · exact fun b o e => by
          rw [upd_ne (ne_of_none e hD)]
          exact sm4 _ _ (sm _ _ e)
      · rw [upd_same, List.replicate_succ', List.map_append]
        rfl
    rintro H1 ⟨sm1, d1⟩
    refine ⟨D, _, rfl, SqL.of d1, ?_⟩
    rw [all_true]
    refine ⟨_, rfl, iteF ?_⟩
    refine ⟨_, rfl, F, rfl, ⟨_, SqT.of (sm1 _ _ hF)⟩, fun Z hZ => lc_it (walk_tup (K := K) (a := F) (xs := xs)) (fun i G => G = upd H1 Z (.lst (((ps.take i).map (·.1)).map V.str))) rfl (fun i G _ e => by rw [e]; exact SqT.of (same_new hZ _ _ (sm1 _ _ hF))) ?_ ?_⟩
    · rintro i v G G' hi rfl ⟨rfl, hiv⟩
      obtain ⟨p, hp, T, rfl, hT⟩ := ra.getL hiv
      have il : i < ps.length := (List.getElem?_eq_some_iff.mp hp).1
      refine ⟨T, _, rfl, SqT.of (same_new hZ _ _ (sm1 _ _ hT)), rfl, ?_⟩
      refine ⟨_, _, rfl, _, _, rfl, rfl, rfl, _, rfl, _, upd_same, ?_, ?_⟩
      · rw [List.length_map, List.length_map, List.length_take]
        exact small1000 (by omega)
      · rw [upd_upd, List.take_add_one, hp, List.map_append, List.map_append]
        rfl
    rintro H2 rfl
    have sm2 : Same H (upd H1 Z (.lst (((ps.take xs.length).map (·.1)).map V.str))) := fun b o e => same_new hZ _ _ (sm1 _ _ e)
    have z2 : (upd H1 Z (.lst (((ps.take xs.length).map (·.1)).map V.str))) Z = some (.lst ((ps.map (·.1)).map V.str)) := by
      rw [upd_same, lx, List.take_length]
    generalize upd H1 Z (.lst (((ps.take xs.length).map (·.1)).map V.str)) = H2 at sm2 z2 ⊢
    have sb : scanBound = 4096 := rfl
    refine ⟨Z, ps.map (·.1), rfl, SqL.of z2, by rw [List.length_map]; omega, fun n hn iff => ?_⟩
    have en : n = xs.length := by
      rw [iff.mpr ndp, List.length_map, lx]
    subst en
    refine ⟨_, rfl, F, xs, rfl, .inr (SqT.of (sm2 _ _ hF)), rfl, ?_⟩
    rw [decide_eq_true rfl]
    exact q H2 sm2
end
end V5

set_option maxHeartbeats 2000000
/-! sorted(files): pairs of texts, the first ones differ. -/
namespace V5
open PySem PySem.Spec PySem.SeqAt PySem.Calls PyProof.Rows L2 K2

def ltS (a b : Str) : Bool := decide (a.cps.toList < b.cps.toList)
theorem swo_strs {α : Type} (f : α → Str) : SrtO.Swo fun v u => ltS (f v) (f u) :=
  ⟨fun x y h => decide_eq_false (List.lt_asymm (of_decide_eq_true h)), fun x y z h1 h2 => decide_eq_false (List.not_lt.mpr (List.le_trans (List.not_lt.mp (of_decide_eq_false h1)) (List.not_lt.mp (of_decide_eq_false h2))))⟩
theorem vals_refs : ∀ (as : List Addr), Vals (as.map V.ref) (as.map Value.ref)
  | [] => .nil
  | a :: r => .cons rfl (vals_refs r)
def adr : Value → Addr
  | .ref a => a
  | _ => 0
theorem refs_perm {out : List Value} {as : List Addr} (h : out.Perm (as.map Value.ref)) : out = (out.map adr).map Value.ref ∧ (out.map adr).Perm as := by
  refine ⟨?_, ?_⟩
  · rw [List.map_map]
    refine (List.map_id out).symm.trans (List.map_congr_left fun v hv => ?_)
    obtain ⟨a, _, rfl⟩ := List.mem_map.mp (h.mem_iff.mp hv)
    rfl
  · have := h.map adr
    rw [List.map_map] at this
    have e : (as.map (adr ∘ Value.ref)) = as := (List.map_congr_left fun a _ => rfl).trans (List.map_id as)
    rw [e] at this
    exact this
/-- sorted(t), t a tuple of pairs of texts; k: the first of each -/
def rSortTx (K : PySem.W.Frag) : List V → Hp → VK → Prop := fun vs H Q => ∃ (F : Addr) (as : List Addr) (k : Addr → Str), vs = [.ref F] ∧ SqT K H F (as.map V.ref) ∧ (∀ a ∈ as, ∃ x, H a = some (.tup [.str (k a), .str x])) ∧ (∀ a ∈ as, ∀ b ∈ as, k a = k b → a = b) ∧ 1 ≤ as.length ∧ as.length ≤ 1000 ∧
  ∀ (l : Addr) (bs : List Addr), H l = none → bs.Perm as → SrtO.Srtd (fun a b => ltS (k a) (k b)) bs → Q (.ref l) (upd H l (.lst (bs.map V.ref)))
section
variable {P : Program} {w : World} {A : Around} {s : Shared} {Q : Bool → Shared → Prop} {E : Value → Shared → Prop}
/-- a pair of texts stands at a -/
def Pr (h : Heap) (a : Addr) (n x : Str) : Prop := ∃ o t u k, h.get? a = some o ∧ o.cls = .type "tuple" ∧ o.data = .seq #[.str n t, .str x u] k
theorem pr_lt {a b : Addr} {n m x y : Str} (ha : Pr s.heap a n x) (hb : Pr s.heap b m y) (ab : n = m → a = b) (q : Q (ltS n m) s) : wpAny (model P w) A (keyLt' (tuples' true) (.ref a) (.ref b)) Q E s := by
  obtain ⟨o1, t1, u1, k1, e1, c1, d1⟩ := ha
  obtain ⟨o2, t2, u2, k2, e2, c2, d2⟩ := hb
  refine PySem.W.kat_lt e1 d1 e2 d2 ?_
  show PySem.W.KatLex P w A true false Q [(.str n t1, .str m t2), (.str x u1, .str y u2)] 0 s
  have eq1 := PySem.SeqAt.EqAt.str_str (A := A) (s := s) n t1 m t2
  by_cases h : n = m
  · obtain rfl := ab h
    rw [e1] at e2
    cases e2
    rw [d1] at d2
    cases d2
    have s1 : (n == n) = true := beq_self_eq_true n
    have s2 : (x == x) = true := beq_self_eq_true x
    rw [s1] at eq1
    have eq2 := PySem.SeqAt.EqAt.str_str (A := A) (s := s) x u1 x u1
    rw [s2] at eq2
    refine PySem.W.kat_cons (eq1 P w _ _ (PySem.W.kat_yes (PySem.W.kat_cons (eq2 P w _ _ (PySem.W.kat_yes (PySem.W.kat_nil ?_))))))
    have : ltS n n = false := (swo_strs (fun z : Str => z)).refl n
    rw [this] at q
    exact q
  · have s1 : (n == m) = false := beq_eq_false_iff_ne.mpr h
    rw [s1] at eq1
    exact PySem.W.kat_cons (eq1 P w _ _ (PySem.W.kat_no (oneLt_any_str q)))
theorem pr_tups {h : Heap} : ∀ {as : List Addr}, (∀ a ∈ as, ∃ n x, Pr h a n x) → ∃ fs : List Value, PySem.W.KatTups h (as.map Value.ref) fs ∧ fs.length = as.length ∧ ∀ f ∈ fs, ∃ x t, f = .str x t
  | [], _ => ⟨[], PySem.W.KatTups.nil, rfl, fun f hf => (List.not_mem_nil hf).elim⟩
  | a :: as, hs => by
    obtain ⟨fs, h1, h2, h3⟩ := pr_tups (as := as) fun u hu => hs u (List.mem_cons_of_mem _ hu)
    obtain ⟨n, x, o, t, u, k, e, c, d⟩ := hs a List.mem_cons_self
    refine ⟨.str n t :: fs, PySem.W.KatTups.cons e c d rfl h1, by rw [List.length_cons, List.length_cons, h2], fun f hf => ?_⟩
    rcases List.mem_cons.mp hf with rfl | hf
    · exact ⟨_, _, rfl⟩
    · exact h3 f hf
end
section
variable {X : Cx}
theorem cr_sortedTx (hc : X.calm = true) : CallR X (.builtin "sorted") (rSortTx X.K) := by
  intro pins s σ H xs us Q I r h
  obtain ⟨F, as, k, rfl, hF, hk, inj, l1, len, q⟩ := h
  obtain rfl := Vals.ref1 r
  have line : 1000 ≤ sizeLine := by decide
  have hh : X.A.handled = none := I.ok.hd hc
  obtain ⟨its, rv, pl, hz⟩ := I.tuple hF
  obtain ⟨o, ho, hcl, n, hd⟩ := pl
  have ei : its = as.map Value.ref := refs_at rv
  subst ei
  have prs : ∀ a ∈ as, ∃ x, Pr s.heap a (k a) x := by
    intro a ha
    obtain ⟨x, e⟩ := hk a ha
    obtain ⟨_, its2, r2, o2, h1, h2, n2, h3⟩ := (show ObjOk X.prog X.w H s.heap a (.tup [.str (k a), .str x]) from I.hok a _ e)
    obtain ⟨v1, v2, rfl, ⟨t, rfl⟩, ⟨u, rfl⟩⟩ := vals2 r2
    exact ⟨x, o2, t, u, n2, h1, h2, h3⟩
  refine call_function_entry kind_sorted plain_sorted entry_sorted (args_sorted1 _) ?_
  unfold Builtin.«sorted»
  refine wpAny_bind (m := checkCount "sorted" 1 1 _) (wpAny_pure ?_)
  have zl : (as.map Value.ref).length ≤ sizeLine := by rw [List.length_map]; omega
  refine wpAny_bind (wpAny_collect_seq (A := X.A.in1) F (.inr rfl) ho hcl hd (fun h' hk' => ?_) (by rw [List.size_toArray]; exact zl))
  refine wpAny_bind (wpAny_newList ?_ zl)
  have hob : (h'.push (seqObj "list" (as.map Value.ref).toArray 0)).get? h'.objs.size = some (seqObj "list" (as.map Value.ref).toArray 0) := Heap.get?_push_size _ rfl
  have kb : ∀ b o, s.heap.get? b = some o → (h'.push (seqObj "list" (as.map Value.ref).toArray 0)).get? b = some o := fun b o e => Heap.get?_push_of_some _ (hk' b o e)
  have I1 : Inv X pins σ H { s with heap := h' } := I.kept (t' := s.toks) hk'
  have free : H h'.objs.size = none := I1.hok.fresh (Nat.le_refl _)
  have I2 : Inv X pins σ (upd H h'.objs.size (.lst (as.map V.ref))) { s with heap := h'.push (seqObj "list" (as.map Value.ref).toArray 0) } :=
    I1.laid (t' := s.toks) (fun b ob q => Heap.get?_push_of_some _ q) (Nat.le_refl _) ⟨by rw [List.length_map]; omega, _, 0, vals_refs as, hob⟩
  have nb : ∀ b o, s.heap.get? b = some o → b ≠ h'.objs.size := fun b o e => Nat.ne_of_lt (Heap.lt_size (hk' b o e))
  show wpAny _ _ _ _ _ { s with heap := h'.push (seqObj "list" (as.map Value.ref).toArray 0) }
  generalize h'.push (seqObj "list" (as.map Value.ref).toArray 0) = h2 at hob kb I2 ⊢
  refine wpAny_bind (wpAny_holding (wpAny_call_entry slot_list_sort ⟨_, hob, rfl⟩ entry_list_sort (SrtO.list_sort_ord (s := { s with heap := h2 }) (swo_strs (fun v => k (adr v))) hob zl (fun h2' => ?_) fun out hs hb => ⟨_, rfl, ?_⟩) (args_list_sort _)))
  · intro h3 keep
    have k3 : ∀ b o, s.heap.get? b = some o → h3.get? b = some o := fun b o e => keep b o (nb b o e) (kb b o e)
    have p3 : ∀ a ∈ as, ∃ x, Pr h3 a (k a) x := fun a ha => by
      obtain ⟨x, o, t, u, n, e, c, d⟩ := prs a ha
      exact ⟨x, o, t, u, n, k3 _ _ e, c, d⟩
    refine ⟨tuples' true, fun Q E hq => ?_, fun a b ha hb => ?_⟩
    · obtain ⟨fs, t1, t2, t3⟩ := pr_tups (h := h3) fun a ha => let ⟨x, p⟩ := p3 a ha; ⟨k a, x, p⟩
      refine PySem.W.kat_kind (s := { s with heap := h3 }) (T := .type "str") t1 (by omega) (fun f hf => ?_) (by rfl) ?_
      · obtain ⟨x, t, rfl⟩ := t3 f hf
        exact PySem.W.Looks.now
      · have e : (Value.type "str" != Value.type "tuple") = true := by decide
        rw [e]
        exact hq
    · obtain ⟨a1, ha1, ea⟩ := List.mem_map.mp ha
      obtain ⟨b1, hb1, eb⟩ := List.mem_map.mp hb
      obtain ⟨x, px⟩ := p3 a1 ha1
      obtain ⟨y, py⟩ := p3 b1 hb1
      rw [← ea, ← eb]
      refine pr_lt (s := { s with heap := h3 }) px py (fun e => inj a1 ha1 b1 hb1 e) ⟨rfl, ?_⟩
      show _ = ltS (k (adr a.1)) (k (adr b.1))
      rw [← ea, ← eb]
      rfl
  · refine wpAny_pure ⟨_, rfl, ?_⟩
    obtain ⟨eo, pm⟩ := refs_perm hb.perm
    obtain ⟨bs, ebs⟩ : ∃ bs, out.map adr = bs := ⟨_, rfl⟩
    rw [ebs] at eo pm
    subst eo
    obtain ⟨n3, he3⟩ := PyProof.Rows.sortedHeap_at (vs := as.map Value.ref) (out := (bs.map Value.ref).toArray) hob
    have I3 := I2.write (x := h'.objs.size) (e := h'.objs.size) (o := .lst (bs.map V.ref)) (h' := sortedHeap h2 h'.objs.size (as.map Value.ref) (bs.map Value.ref).toArray) (t' := s.toks) (by rw [upd_same]; exact True.intro) (.inl rfl) (fun b u nb' e' => (PyProof.Rows.sortedHeap_old nb' (Heap.lt_size e')).trans e') ⟨_, he3⟩
      ⟨by rw [List.length_map, pm.length_eq]; omega, _, n3, vals_refs bs, he3⟩
    rw [upd_upd] at I3
    refine ⟨.ref h'.objs.size, _, I3, rfl, q _ _ free pm (List.pairwise_map.mp hs)⟩
end
end V5

set_option maxHeartbeats 2000000
/-! A dict by a comprehension, tuples for keys. -/
namespace V5
open PySem PySem.Spec PyProof.Rows L2 K2
section
variable {X : Cx}
/-- {k: v for target in iter}, the keys tuples of ints and texts -/
def tDcT (wi : TI) (g : TG) (tk tv : TE) (vs : List Nat) : TE := fun σ H Q => wi σ H fun J H1 => ∀ M, H1 M = none → ∃ W : Nat → Nat → Hp → Prop, (∃ m, W 0 m (upd H1 M (.dT []))) ∧ ∀ i m G, W i m G →
  (J.stop i G ∧ Q (.ref M) G) ∨
  (J.go i G ∧ ∃ next : Hp → Prop, (∀ G', next G' → ∃ m', m' < m ∧ W (i + 1) m' G') ∧ ∀ x G', J.yld i G x G' → g x (wipe σ vs) G' fun σ2 G2 => wipe σ2 vs = wipe σ vs ∧
    tk σ2 G2 fun y G3 => tv σ2 G3 fun z G4 => ∃ (es : List (List Key × V)) (ks : List Key) (c : Addr), y = .ref c ∧ G4 c = some (.tup (ks.map kV)) ∧ G4 M = some (.dT es) ∧ es.length < sizeLine ∧ next (upd G4 M (.dT (putK es ks z))))
theorem pe_dcT {kx vx target src : Expr} {sc : Scope} {mine : List (Str × Nat)} {cp : PySem.Pos} {ti : TI} {tg : TG} {t1 t2 : TE} (room : X.A.units + 1 < cLine) (calm : X.calm = true) (uniq : X.N.Nodup) (walk : PI X target src ti) (blk : BlkOk X.N X.env.scope sc mine)
    (p1 : ∀ (s : Shared) (H : Hp) (C : Addr) (cl : List (Str × Addr)) (fp : List Addr), PG (X.blk s H sc (compEnvC sc cl C X.env) fp) target tg)
    (p3 : ∀ (s : Shared) (H : Hp) (C : Addr) (cl : List (Str × Addr)) (fp : List Addr), PE (X.blk s H sc (compEnvC sc cl C X.env) fp) kx t1)
    (p4 : ∀ (s : Shared) (H : Hp) (C : Addr) (cl : List (Str × Addr)) (fp : List Addr), PE (X.blk s H sc (compEnvC sc cl C X.env) fp) vx t2) (folded : ∀ x, foldedSetIterable src X.env x = pure x := by intro _; rfl) :
    PE X (.DictComp kx vx [⟨target, src, [], 0⟩] sc cp) (tDcT ti tg t1 t2 (mine.map (·.2))) := by
  constructor
  intro pins s σ H Q I wish
  have freeOk : ∀ y ∈ sc.names, y.2 = .free → ∃ c, X.env.cells.lookup y.1 = some c := fun y hy e => by
    rcases blk.free y hy e with k | k
    · exact I.ok.has _ (.inl k)
    · exact I.ok.has _ (.inr k)
  rw [arm_eval_DictComp]
  refine wpAny_comprehension_free (use := none) rfl folded (closure_ok freeOk) blk.kind (fun y hy e => by rw [blk.uniq y hy, e]) (thn (walk.run pins s σ H _ I wish) fun xv sa wa => thn wa fun itv sb wb => ?_)
  obtain ⟨it, fp, tn, J, Hb, rfl, Ib, T, stb, fpb, ask⟩ := wb
  refine wpAny_newObj_type (newEnv_comp ?_)
  obtain ⟨M, eM⟩ : ∃ M, sb.heap.objs.size = M := ⟨_, rfl⟩
  rw [eM]
  have newM : Hb M = none := Ib.hok.fresh (Nat.le_of_eq eM)
  obtain ⟨W, ⟨m0, W0⟩, turn⟩ := ask M newM
  -- the dict is laid
  obtain ⟨sc', esc⟩ : ∃ u : Shared, u = { sb with heap := sb.heap.push { cls := .type "dict", data := .dict #[] } } := ⟨_, rfl⟩
  have hsc : sc'.heap = sb.heap.push { cls := .type "dict", data := .dict #[] } := by rw [esc]
  have Ic : Inv X pins σ (upd Hb M (.dT [])) sc' := by
    rw [esc]
    exact Ib.laid (t' := sb.toks) (fun b o e => Heap.get?_push_of_some _ e) (Nat.le_of_eq eM) (by rw [← eM]; exact dt_empty sb.heap Ib.big)
  have ltM : ∀ b ∈ fp, b < sb.heap.objs.size := fun b hb => let ⟨o, e, _⟩ := T.obj _ _ stb b hb; Heap.lt_size e
  have fpc : ∀ b ∈ fp, FpOk X pins (upd Hb M (.dT [])) b ∧ b < sc'.heap.objs.size := fun b hb =>
    ⟨⟨by rw [upd_ne (by rw [← eM]; exact Nat.ne_of_lt (ltM b hb))]; exact (fpb b hb).1, (fpb b hb).2⟩, by rw [hsc, Heap.size_push]; exact Nat.lt_succ_of_lt (ltM b hb)⟩
  have stc : tn 0 sc'.heap := T.keep _ _ _ stb fun b _ o e => by rw [hsc]; exact Heap.get?_push_of_some _ e
  have Id := block_start Ic blk uniq fpc
  obtain ⟨Z, eZ⟩ : ∃ Z, sc'.heap.objs.size = Z := ⟨_, rfl⟩
  obtain ⟨cl, ecl⟩ : ∃ cl, cellsFrom (sc'.heap.objs.size + 1) sc.names (cloFrom X.env.cells sc.names []) = cl := ⟨_, rfl⟩
  obtain ⟨Hc, eHc⟩ : ∃ Hc, upd Hb M (.dT []) = Hc := ⟨_, rfl⟩
  have q1 := p1 sc' Hc Z cl fp
  have q3 := p3 sc' Hc Z cl fp
  have q4 := p4 sc' Hc Z cl fp
  rw [eHc] at Ic Id W0
  rw [eHc] at fpc
  rw [ecl, eZ] at Id
  obtain ⟨ev, eev⟩ : ∃ ev, compEnvC sc cl Z X.env = ev := ⟨_, rfl⟩
  rw [eev] at q1 q3 q4 Id
  have evZ : ev.locals = Z := by rw [← eev]; rfl
  obtain ⟨sd, esd⟩ : ∃ u : Shared, u = { sc' with heap := pushCells (sc'.heap.push { cls := .type "dict", data := .dict #[] }) sc.names } := ⟨_, rfl⟩
  rw [← esd] at Id
  have std : tn 0 sd.heap := T.keep _ _ _ stc fun b _ o e => by rw [esd]; exact pushCells_keeps _ _ _ _ (Heap.get?_push_of_some _ e)
  have pinOk : ∀ {σ' : L2.St} {G : Hp} {s' : Shared}, Inv (X.blk sc' Hc sc ev fp) [] σ' G s' → (∀ b ∈ fp, G b = none) → ∀ b ∈ fp, FpOk (X.blk sc' Hc sc ev fp) [] G b := fun {σ' G s'} I' hn b hb =>
    ⟨hn b hb, (I'.ok.exf b hb).1, I'.ok.exfs b hb, .inl hb, fun x c e => (I'.ok.exf b hb).2 x c e, fun p hp => absurd (show p ∈ ([] : List (Addr × Obj)) ++ [] from hp) (by simp)⟩
  have loop : codeAny (model X.prog X.w) X.A (.compLoop (.DictComp kx vx [⟨target, src, [], 0⟩] sc cp) 0 (.ref it) (.ref M) ev) (compPost (model X.prog X.w) X.A X.xe none (EP X pins σ Q) (.ref M) Z) sd := by
    refine compLoop_anyD (fun n u => ∃ i G, Inv (X.blk sc' Hc sc ev fp) [] (wipe σ (mine.map (·.2))) G u ∧ tn i u.heap ∧ (∀ b ∈ fp, G b = none) ∧ W i n G) ?_ m0 ⟨0, Hc, Id, std, fun b hb => (fpc b hb).1.1, W0⟩
    rintro n se ⟨i, G, Ie, ste, ne, We⟩
    rcases turn i n G We with ⟨stop, qq⟩ | ⟨go, next, hnext, step⟩
    · refine thnF (T.done (X.blk sc' Hc sc ev fp) rfl rfl rfl calm i [] se _ G (fun _ _ => False) Ie (pinOk Ie ne) ste stop) fun r sf ⟨hr, If⟩ => ?_
      subst hr
      have Ig : Inv X pins σ G sf := Ic.call' (ch := fp) If.os If.base If.hok If.bare fun b hb => let z := (fpc b hb).1; ⟨z.2.2.2.1, z.2.1, z.2.2.2.2.1, z.2.2.2.2.2⟩
      have nZ : G sc'.heap.objs.size = none := by
        have z : G ev.locals = none := If.free
        rw [evZ, ← eZ] at z
        exact z
      obtain ⟨m, hm, _⟩ := If.loc
      have hm : sf.heap.Ns ev.locals m := hm
      rw [evZ] at hm
      obtain ⟨g0, g1, g2, g3, g4, g5⟩ := Ic.fpOk (Nat.le_refl _) nZ
      rw [eZ] at g0 g1 g2 g3 g4 g5
      exact ⟨m, hm, fun h2 sb2 => ⟨.ref M, G, Ig.turned (t' := sf.toks) (fun b o hb e => (sb2.2 b hb).trans e) g0 g1 g3 g4 g5, rfl, qq⟩⟩
    · refine thnF (T.item (X.blk sc' Hc sc ev fp) rfl rfl rfl calm i [] se _ G (fun _ _ => False) Ie (pinOk Ie ne) ste go) fun r sf ⟨u, hr, hf⟩ => ?_
      subst hr
      refine thnF hf fun _ sg ⟨x, G1, Ig, rg, yg, stg, ng⟩ => ?_
      have Ig2 := Ig.pinned (pinOk Ig ng) (T.obj _ _ stg)
      refine thnF (q1.run _ sg _ G1 x u _ Ig2 rg (step x G1 yg)) fun _ sh ⟨σ2, G2, Ih, hw, qh⟩ => ?_
      have tests := (pts_nil (X := X.blk sc' Hc sc ev fp)).run
      refine thnF (tests _ sh σ2 G2 (fun b G3 => b = true ∧ G3 = G2) Ih ⟨rfl, rfl⟩) fun b si ⟨G3, Ii, eb, eG⟩ => ?_
      subst eb eG
      simp only [if_true]
      refine thnF (q3.run _ si σ2 _ _ Ii qh) fun k sj ⟨yk, G4, Ij, rk, qj⟩ => ?_
      refine thnF (q4.run _ sj σ2 G4 _ Ij qj) fun v sk ⟨yv, G5, Ik, rv, es, ks, c, ek, gc, gm, few, nx⟩ => ?_
      subst ek
      obtain rfl : k = Value.ref c := rk
      refine set_tupKey (X := X.blk sc' Hc sc ev fp) room Ik gm gc few rv fun sl Il => ?_
      obtain ⟨m', lt, W'⟩ := hnext _ nx
      have pinned : ∀ b ∈ fp, ∀ o, sg.heap.get? b = some o → sl.heap.get? b = some o ∧ upd G5 M (.dT (putK es ks yv)) b = none := fun b hb o e =>
        let z := Il.pin (b, o) (List.mem_append_right _ (List.mem_append_right _ (mem_pinsAt hb e)))
        ⟨z.1, z.2.1⟩
      refine ⟨m', lt, i + 1, _, (Il.unpinned (pins := [])).weak (by rw [← hw, wipe_length]) (fun j v e => ?_), T.keep _ _ _ stg fun b hb o e => (pinned b hb o e).1, fun b hb => ?_, W'⟩
      · rw [← hw] at e
        exact (wipe_some e).1
      · obtain ⟨o, e, _⟩ := T.obj _ _ stg b hb
        exact (pinned b hb o e).2
  subst eev ecl eZ
  have fin := codeAny_compStart_dict loop (T.self X.A 0 _ _ _ std loop)
  rw [esd, esc] at fin
  exact fin
theorem dcT_it {J : It} {n : Nat} {G : Hp → Prop} {Y : Nat → Hp → V → Hp → Prop} (w : Walk J n G Y) {g : TG} {tk tv : TE} {vs : List Nat} {σ : L2.St} {H1 : Hp} {M : Addr} {done : Hp → Prop} (Pv : Nat → Hp → Prop) (first : Pv 0 (upd H1 M (.dT []))) (holds : ∀ i H, i ≤ n → Pv i H → G H)
    (step : ∀ i x H H', i < n → Pv i H → Y i H x H' → g x (wipe σ vs) H' fun σ2 G2 => wipe σ2 vs = wipe σ vs ∧
      tk σ2 G2 fun y G3 => tv σ2 G3 fun z G4 => ∃ (es : List (List Key × V)) (ks : List Key) (c : Addr), y = .ref c ∧ G4 c = some (.tup (ks.map kV)) ∧ G4 M = some (.dT es) ∧ es.length < sizeLine ∧ Pv (i + 1) (upd G4 M (.dT (putK es ks z)))) (last : ∀ H, Pv n H → done H) :
    ∃ W : Nat → Nat → Hp → Prop, (∃ m, W 0 m (upd H1 M (.dT []))) ∧ ∀ i m G, W i m G →
  (J.stop i G ∧ done G) ∨
  (J.go i G ∧ ∃ next : Hp → Prop, (∀ G', next G' → ∃ m', m' < m ∧ W (i + 1) m' G') ∧ ∀ x G', J.yld i G x G' → g x (wipe σ vs) G' fun σ2 G2 => wipe σ2 vs = wipe σ vs ∧
    tk σ2 G2 fun y G3 => tv σ2 G3 fun z G4 => ∃ (es : List (List Key × V)) (ks : List Key) (c : Addr), y = .ref c ∧ G4 c = some (.tup (ks.map kV)) ∧ G4 M = some (.dT es) ∧ es.length < sizeLine ∧ next (upd G4 M (.dT (putK es ks z)))) := by
  refine ⟨fun i m H => i ≤ n ∧ m = n - i ∧ Pv i H, ⟨n, Nat.zero_le _, rfl, first⟩, ?_⟩
  rintro i m H ⟨le, rfl, pv⟩
  by_cases lt : i < n
  · exact .inr ⟨w.goes i H lt (holds i H le pv), Pv (i + 1), fun G' p' => ⟨n - (i + 1), by omega, lt, rfl, p'⟩, fun x G' y => step i x H G' lt pv (w.yields i H x G' lt (holds i H le pv) y)⟩
  · obtain rfl : i = n := by omega
    exact .inl ⟨w.stops H (holds i H le pv), last H pv⟩
end
end V5

set_option maxHeartbeats 2000000
/-! A project is made. -/
namespace V5
open PySem PySem.Spec PyProof.Rows L2 K2

abbrev cPro (K : PySem.W.Frag) : Addr := He.ga K "Project"
def pgAt (H : Hp) (a : Addr) : Str × Str := match H a with
  | some (.tup [.str n, .str x]) => (n, x)
  | _ => ("", "")
theorem pgAt_eq {H : Hp} {a : Addr} {n x : Str} (h : H a = some (.tup [.str n, .str x])) : pgAt H a = (n, x) := by
  unfold pgAt
  rw [h]
theorem refs_of {H : Hp} : ∀ {xs : List V} {ps : List (Str × Str)}, A2 (RPg H) xs ps → ∃ as : List Addr, xs = as.map V.ref ∧ ps = as.map (pgAt H) ∧ ∀ a ∈ as, H a = some (.tup [.str (pgAt H a).1, .str (pgAt H a).2])
  | _, _, .nil => ⟨[], rfl, rfl, fun _ h => nomatch h⟩
  | _, _, .cons ⟨T, e, h⟩ r => by
    obtain ⟨as, e1, e2, h3⟩ := refs_of r
    have hp := pgAt_eq h
    refine ⟨T :: as, by rw [e, e1]; rfl, by rw [List.map_cons, hp, e2], fun a ha => ?_⟩
    rcases List.mem_cons.mp ha with rfl | ha
    · rw [hp]
      exact h
    · exact h3 a ha
/-- two rows of the same things, both in order -/
theorem sort_one : ∀ {xs ys : List (Str × Str)}, xs.Perm ys → (xs.map (·.1)).Nodup → xs.Pairwise (fun a b => ltS b.1 a.1 = false) → ys.Pairwise (fun a b => ltS b.1 a.1 = false) → xs = ys
  | [], ys, p, _, _, _ => by rw [List.nil_perm.mp p]
  | x :: xs, [], p, _, _, _ => by
    have := p.length_eq
    cases this
  | x :: xs, y :: ys, p, nd, px, py => by
    have hx := List.pairwise_cons.mp px
    have hy := List.pairwise_cons.mp py
    have e : x = y := by
      have m1 : y ∈ x :: xs := p.symm.mem_iff.mp List.mem_cons_self
      have m2 : x ∈ y :: ys := p.mem_iff.mp List.mem_cons_self
      rcases List.mem_cons.mp m1 with e | m1
      · exact e.symm
      · rcases List.mem_cons.mp m2 with e | m2
        · exact e
        · have a := hx.1 y m1
          have b := hy.1 x m2
          have le1 := List.not_lt.mp (of_decide_eq_false a)
          have le2 := List.not_lt.mp (of_decide_eq_false b)
          have eq : x.1.cps.toList = y.1.cps.toList := List.le_antisymm le1 le2
          have en : x.1 = y.1 := by
            have : x.1.cps = y.1.cps := Array.ext' eq
            cases hx1 : x.1
            cases hy1 : y.1
            rw [hx1, hy1] at this
            simpa using this
          have nn := (List.nodup_cons.mp nd).1
          exact absurd (show x.1 ∈ xs.map (·.1) from by rw [en]; exact List.mem_map_of_mem m1) nn
    subst e
    rw [sort_one ((List.perm_cons x).mp p) (List.nodup_cons.mp nd).2 hx.2 hy.2]
theorem refs_to {H : Hp} : ∀ {as : List Addr}, (∀ a ∈ as, H a = some (.tup [.str (pgAt H a).1, .str (pgAt H a).2])) → A2 (RPg H) (as.map V.ref) (as.map (pgAt H))
  | [], _ => .nil
  | a :: as, h => .cons ⟨a, rfl, h a List.mem_cons_self⟩ (refs_to fun b hb => h b (List.mem_cons_of_mem _ hb))
theorem inj_of {f : Addr → Str} {as : List Addr} (nd : (as.map f).Nodup) : ∀ a ∈ as, ∀ b ∈ as, f a = f b → a = b := by
  intro a ha b hb e
  obtain ⟨i, hi, rfl⟩ := List.mem_iff_getElem.mp ha
  obtain ⟨j, hj, rfl⟩ := List.mem_iff_getElem.mp hb
  have h1 : (as.map f)[i]? = some (f as[i]) := by rw [List.getElem?_map, List.getElem?_eq_getElem hi]; rfl
  have h2 : (as.map f)[j]? = some (f as[i]) := by rw [List.getElem?_map, List.getElem?_eq_getElem hj, e]; rfl
  have ij := List.getElem?_inj (by rw [List.length_map]; exact hi) nd |>.mp (h1.trans h2.symm)
  subst ij
  rfl
def spProj (K : PySem.W.Frag) : Sp := fun vs H Q E => ∃ (Ho : Hp) (p dx F : Addr) (xs : List V) (ps pgs : List (Str × Str)) (fs : List Fi), vs = [.ref p, .ref F] ∧ H p = some (.ins (cPro K) dx []) ∧ Same Ho H ∧ Ho p = none ∧ Ho F = some (.tup xs) ∧ A2 (RPg Ho) xs ps ∧
  1 ≤ ps.length ∧ ps.length ≤ 6 ∧ (∀ p ∈ ps, FileOk p) ∧ (ps.map (·.1)).Nodup ∧ pgs.Perm ps ∧ pgs.Pairwise (fun a b => ltS b.1 a.1 = false) ∧ A2 Page pgs fs ∧ Good fs ∧
  (∀ f n, dueF fs (fs.map (impF fs)) = some (f, n) → SErrT K Ho iw f n E) ∧ (dueF fs (fs.map (impF fs)) = none → ∀ f n, dueF fs (fs.map (twF fs)) = some (f, n) → SErrT K Ho "twice" f n E) ∧
  (dueF fs (fs.map (impF fs)) = none → dueF fs (fs.map (twF fs)) = none → ∀ H' T ys rest, St Ho H' → H' p = some (.ins (cPro K) dx (("_files", .ref T) :: rest)) → H' T = some (.tup ys) → ys.length = ps.length → Q .non H')
section
variable {P : Program} {w : World} {K : PySem.W.Frag} {mg : Str → Option Value} {base : Heap}
abbrev prN : List Str := ["self", "files", "name", "text", "counts", "key"]
theorem ok_Project (E : Env K mg) : FnOk P w K mg base (CX P w) 14 (f_Project___init__ K) (fd_Project___init__ K) ["self", "files"] (spProj K) := by
  refine E.F_Project___init__.okX sc_Project___init__ (fun vs H Q E h => ?_) (fun cdv A outer s H vs Q E1 hr h => ?_)
  · obtain ⟨Ho, p, dx, F, xs, ps, pgs, fs, rfl, _⟩ := h
    rfl
  · obtain ⟨Ho, p, dx, F, xs, ps, pgs, fs, rfl, hp, sm0, hpo, hF, ra, l1, l6, ok, ndp, perm, srt, rp, gd, e1, e2, q⟩ := h
    have nd := sc_Project___init__.nd
    have GA : FnOk P w K mg base CX0 4 (f_are_files K) (fd_are_files K) ["value"] spAre := ok_are E
    have GC : FnOk P w K mg base (CX P w) 13 (f_checked K) (fd_checked K) ["files"] (spChecked K) := ok_checked E
    have GI : FnOk P w K mg base CX0 2 (f_item_counts K) (fd_item_counts K) ["sources"] (spIc K) := ok_ic E
    refine ⟨_, pss_cons (ps_if (pt_not (pt_val (pe_call GA (hr.mono (by decide)) (by rfl) E.D_are_files.g E.D_are_files.k E.D_are_files.b .nil pass0 (pa_cons (pv 1) pa_nil)))) (pss_one ps_never) pss_nil)
      <| pss_cons (ps_fld (pv 0) (pe_tupleOf (by rfl) E.u_tuple (pe_callB (cr_sortedTx rfl) (by rfl) E.u_sorted (by decide +kernel) (pa_cons (pv 1) pa_nil))) rfl)
      <| pss_cons (ps_fld (pv 0) (pe_dc (own := [("name", 2), ("text", 3)]) (g := gTup K 2 (gCons (gName 2) (gCons (gName 3) gNil))) (tt := tYes) rfl nd (pi_tup (pe_fld (pv 0) rfl)) (blkOk_by (N := prN) (sc := defScope s_Project___init__) (by decide +kernel))
          (fun _ _ _ _ _ => pg_tup rfl (pgs_cons (pg_name (i := 2) nd rfl (Or.inl rfl)) (pgs_cons (pg_name (i := 3) nd rfl (Or.inl rfl)) pgs_nil))) (fun _ _ _ _ _ => pts_nil) (fun _ _ _ _ _ => pv 2) (fun _ _ _ _ _ => pv 3)) rfl)
      <| pss_cons (ps_fld (pv 0) (pe_call GC hr (by rfl) E.D_checked.g E.D_checked.k E.D_checked.b .nil (passes_call (takes_of rfl rfl rfl rfl) fun _ _ _ _ z => z) (pa_cons (pe_fld (pv 0) rfl) pa_nil)) rfl)
      <| pss_cons (ps_set (i := 4) nd rfl (.inr rfl) (pe_call GI (hr.mono (by decide)) (by rfl) E.D_item_counts.g E.D_item_counts.k E.D_item_counts.b .nil pass0 (pa_cons (pe_fld (pv 0) rfl) pa_nil)))
      <| pss_cons (ps_lock (ps_fld (pv 0) (pe_dcT (mine := [("key", 5)]) (tg := gName 5) (hu_of hr) rfl nd (pi_keys (pv 4)) (blkOk_by (N := prN) (sc := defScope s_Project___init__) (by decide +kernel))
          (fun _ _ _ _ _ => pg_name (i := 5) nd rfl (Or.inl rfl)) (fun _ _ _ _ _ => pv 5) (fun _ _ _ _ _ => pe_tupRg rfl (by rfl) E.u_tuple (prg_1 (by rfl) E.u_range (pe_dget (hu_of hr) (pv 4) (pv 5) (fun _ _ => rfl))))) rfl))
      <| pss_one (ps_fld (pv 0) (pv 4) rfl), ?_⟩
    obtain ⟨as, exs, eps, has⟩ := refs_of ra
    subst exs
    have la : as.length = ps.length := by rw [eps, List.length_map]
    refine ⟨_, rfl, F, _, ps, rfl, sm0 _ _ hF, ra.imp fun _ _ ⟨T, e, h⟩ => ⟨T, e, sm0 _ _ h⟩, l1, l6, ok, ndp, fun H1 sm1 => ⟨_, rfl, iteF ?_⟩⟩
    have so1 : Same Ho H1 := fun b o e => sm1 _ _ (sm0 _ _ e)
    have ndn : (as.map fun a => (pgAt Ho a).1).Nodup := by
      have z := ndp
      rw [eps, List.map_map] at z
      exact z
    refine ⟨_, rfl, F, as, fun a => (pgAt Ho a).1, rfl, SqT.of (so1 _ _ hF), fun a ha => ⟨_, so1 _ _ (has a ha)⟩, inj_of ndn, by omega, by omega, fun l bs hl pm sr => ?_⟩
    have smL : Same H1 (upd H1 l (.lst (bs.map V.ref))) := same_new hl
    have lL : (upd H1 l (.lst (bs.map V.ref))) l = some (.lst (bs.map V.ref)) := upd_same
    have epg : bs.map (pgAt Ho) = pgs := by
      have pm2 : (bs.map (pgAt Ho)).Perm ps := by
        rw [eps]
        exact pm.map _
      refine sort_one (pm2.trans perm.symm) ((pm2.map (·.1)).nodup_iff.mpr ndp) ?_ srt
      exact List.pairwise_map.mpr sr
    have lb : bs.length = ps.length := by rw [pm.length_eq, la]
    have rb : A2 (RPg Ho) (bs.map V.ref) pgs := by
      rw [← epg]
      exact refs_to fun a ha => has a (pm.mem_iff.mp ha)
    generalize upd H1 l (.lst (bs.map V.ref)) = H2 at smL lL ⊢
    have so2 : Same Ho H2 := fun b o e => smL _ _ (so1 _ _ e)
    have p2 : H2 p = some (.ins (cPro K) dx []) := smL _ _ (sm1 _ _ hp)
    refine .inl ⟨l, _, rfl, SqL.of lL, fun T hT => ?_⟩
    have nTp : T ≠ p := (ne_of_none p2 hT).symm
    refine ⟨_, rfl, p, _, dx, _, rfl, same_new hT _ _ p2, E.C_Project.c, E.n_Project__files, (by exact (by decide : 0 < 1000)), ?_⟩
    generalize hG3 : upd (upd H2 T (.tup (bs.map V.ref))) p _ = H3
    have so3 : Same Ho H3 := fun b o e => by
      rw [← hG3, upd_ne (ne_of_none e hpo)]
      exact same_new hT _ _ (so2 _ _ e)
    have p3 : H3 p = some (.ins (cPro K) dx [("_files", .ref T)]) := by rw [← hG3, upd_same]; rfl
    have t3 : H3 T = some (.tup (bs.map V.ref)) := by rw [← hG3, upd_ne nTp, upd_same]
    refine ⟨_, rfl, p, _, dx, _, _, rfl, p3, E.C_Project.c, E.n_Project__files, rfl, T, rfl, ⟨_, SqT.of t3⟩, fun D hD => ?_⟩
    have nDp : D ≠ p := (ne_of_none p3 hD).symm
    have nDT : D ≠ T := (ne_of_none t3 hD).symm
    refine dict_it (walk_tup (K := K) (a := T) (xs := bs.map V.ref)) (fun i G => ∃ kk, G = upd H3 D (.dK kk) ∧ kk.length ≤ i) ⟨[], rfl, Nat.le_refl _⟩ (fun i G _ ⟨kk, e, _⟩ => by rw [e]; exact SqT.of (same_new hD _ _ t3)) ?_ ?_
    · rintro i v G G' hi ⟨kk, rfl, lk⟩ ⟨rfl, hiv⟩
      obtain ⟨pg, hpg, Z, rfl, hZ⟩ := rb.getL hiv
      have ib : i < bs.length := by
        have := hi
        rwa [List.length_map] at this
      have pl := length_putK kk (Sum.inr pg.1 : Key) (.str pg.2)
      refine ⟨Z, _, rfl, SqT.of (same_new hD _ _ (so3 _ _ hZ)), rfl, ?_⟩
      exact ⟨_, _, rfl, _, _, rfl, rfl, rfl, _, rfl, _, rfl, kk, .inr pg.1, rfl, upd_same, small1000 (by omega), _, upd_upd .., by omega⟩
    rintro G ⟨kk, rfl, _⟩
    have sm4 : Same H3 (upd H3 D (.dK kk)) := same_new hD
    generalize upd H3 D (.dK kk) = H4 at sm4 ⊢
    refine ⟨_, rfl, p, _, dx, _, rfl, sm4 _ _ p3, E.C_Project.c, E.n_Project__texts, (by exact (by decide : 1 < 1000)), ?_⟩
    generalize hG5 : upd H4 p _ = H5
    have so5 : Same Ho H5 := fun b o e => by
      rw [← hG5, upd_ne (ne_of_none e hpo)]
      exact sm4 _ _ (so3 _ _ e)
    have p5 : H5 p = some (.ins (cPro K) dx [("_files", .ref T), ("_texts", .ref D)]) := by rw [← hG5, upd_same]; rfl
    have t5 : H5 T = some (.tup (bs.map V.ref)) := by rw [← hG5, upd_ne nTp]; exact sm4 _ _ t3
    refine ⟨_, rfl, p, _, dx, _, _, rfl, p5, E.C_Project.c, E.n_Project__files, rfl, ?_⟩
    refine ⟨T, _, pgs, fs, rfl, t5, rb.imp fun _ _ ⟨Z, e, h⟩ => ⟨Z, e, so5 _ _ h⟩, rp, gd, fun f n due d H' s hd => e1 f n due d H' ((St.same so5).trans s) hd, fun n1 f n due d H' s hd => e2 n1 f n due d H' ((St.same so5).trans s) hd, fun n1 n2 H6 Hx sp tvs st6 srx stx rax hide => ?_⟩
    refine ⟨_, rfl, p, _, dx, _, rfl, st6.at p5 rfl, E.C_Project.c, E.n_Project_sources, (by exact (by decide : 2 < 1000)), ?_⟩
    obtain ⟨sdx, sD, k2, l2, hsp, hoD, hsD⟩ := srx
    have nsp : sp ≠ p := by
      rintro rfl
      have z := (st6.at p5 rfl).symm.trans hsp
      have := congrArg (fun o : Option HO => match o with | some (.ins _ _ fs) => fs.length | _ => 0) z
      simp at this
    have nsD : sD ≠ p := by
      rintro rfl
      rw [st6.at p5 rfl] at hsD
      cases hsD
    generalize hG7 : upd H6 p _ = H7
    have st7 : St Ho H7 := by
      rw [← hG7]
      exact ((St.same so5).trans st6).own hpo
    have p7 : H7 p = some (.ins (cPro K) dx [("_files", .ref T), ("_texts", .ref D), ("sources", .ref sp)]) := by rw [← hG7, upd_same]; rfl
    have t7 : H7 T = some (.tup (bs.map V.ref)) := by rw [← hG7, upd_ne nTp]; exact st6.at t5 rfl
    have sx7 : St Hx H7 := by
      rw [← hG7]
      exact stx.own (hide p _ p5)
    have srx7 : SRX K Hx H7 sp fs tvs := ⟨sdx, sD, k2, l2, by rw [← hG7, upd_ne nsp]; exact hsp, hoD, by rw [← hG7, upd_ne nsD]; exact hsD⟩
    refine ⟨_, rfl, p, _, dx, _, _, rfl, p7, E.C_Project.c, E.n_Project_sources, rfl, ?_⟩
    refine ⟨sp, fs, tvs, Hx, rfl, srx7, sx7, rax, gd, fun H8 C cvs sm8 nC hC az lc => ?_⟩
    have nCp : C ≠ p := (ne_of_none p7 nC).symm
    refine ⟨C, .dT cvs, hC, trivial, fun od => ?_⟩
    have lk : ∀ z o, H7 z = some o → upd H8 C (.frz od (.dT cvs)) z = some o := fun z o e => by
      rw [upd_ne (ne_of_none e nC)]
      exact sm8 _ _ e
    refine ⟨_, rfl, C, od, rfl, .inr ⟨cvs, upd_same, fun M hM => ?_⟩⟩
    have nMC : M ≠ C := (ne_of_none upd_same hM).symm
    have nMp : M ≠ p := (ne_of_none (lk _ _ p7) hM).symm
    refine dcT_it (walk_keysT (d := C) (o := od) (kvs := cvs)) (fun i G => ∃ es, (∀ z o, H7 z = some o → G z = some o) ∧ G C = some (.frz od (.dT cvs)) ∧ G M = some (.dT es) ∧ es.length ≤ i) ⟨[], fun z o e => same_new hM _ _ (lk z o e), same_new hM _ _ upd_same, upd_same, Nat.le_refl _⟩
      (fun i G _ ⟨_, _, e, _⟩ => e) ?_ ?_
    · rintro i v G G' hi ⟨es, keep, gC, gM, le⟩ ⟨rfl, k, v2, kq, hk, rfl, hq⟩
      obtain ⟨v3, e3⟩ : ∃ v3, valV cvs k = some v3 := by
        have : (valV cvs k).isSome = true := by
          rw [← valV_any]
          exact List.any_eq_true.mpr ⟨_, List.mem_of_getElem? hk, decide_eq_true rfl⟩
        exact Option.isSome_iff_exists.mp this
      have z3 : v3 = .int 0 := by
        have e4 := e3
        unfold valV at e4
        cases zf : cvs.find? fun kv => decide (kv.1 = k) with
        | none =>
          rw [zf] at e4
          cases e4
        | some r =>
          rw [zf] at e4
          cases e4
          exact az r (List.mem_of_find?_eq_some zf)
      subst z3
      refine ⟨rfl, _, rfl, _, rfl, _, rfl, C, .int 0, rfl, .inr ⟨cvs, k, kq, .inr ⟨od, gC⟩, rfl, hq, e3.symm⟩, 0, rfl, RgOk.of_le (by decide) (by decide) (by decide) (by decide), fun R hR => ?_⟩
      have smR : ∀ b o, _ → (upd _ R (.tup (rgV 0 0))) b = some o := fun b o e => same_new hR b o e
      have pl := length_putK es k (.ref R)
      refine ⟨es, k, kq, rfl, smR _ _ hq, smR _ _ gM, small1000 (by have : i < cvs.length := hi; omega), _, fun z o e => ?_, ?_, upd_same, by omega⟩
      · have nz : z ≠ M := by
          rintro rfl
          have := lk _ _ e
          rw [hM] at this
          cases this
        rw [upd_ne nz]
        exact smR _ _ (keep z o e)
      · rw [upd_ne (Ne.symm nMC)]
        exact smR _ _ gC
    rintro G ⟨es, keep, gC, gM, _⟩
    refine ⟨_, rfl, p, _, dx, _, rfl, keep _ _ p7, E.C_Project.c, E.n_Project__serials, (by exact (by decide : 3 < 1000)), ?_⟩
    refine ⟨(upd_ne nCp).trans gC, ?_⟩
    generalize hG9 : upd (upd G p _) C (.dT cvs) = H9
    have st9 : St Ho H9 := by
      rw [← hG9]
      refine ((St.trans st7 (fun b o e => ⟨o, keep b o e, fun _ => rfl⟩ : St H7 G)).own hpo).own ?_
      cases z : Ho C with
      | none => rfl
      | some o =>
        obtain ⟨u, e, _⟩ := st7 C o z
        rw [nC] at e
        cases e
    have p9 : H9 p = some (.ins (cPro K) dx [("_files", .ref T), ("_texts", .ref D), ("sources", .ref sp), ("_serials", .ref M)]) := by rw [← hG9, upd_ne (Ne.symm nCp), upd_same]; rfl
    have nTC : T ≠ C := ne_of_none t7 nC
    have t9 : H9 T = some (.tup (bs.map V.ref)) := by rw [← hG9, upd_ne nTC, upd_ne nTp]; exact keep _ _ t7
    refine ⟨_, rfl, _, rfl, p, _, dx, _, rfl, p9, E.C_Project.c, E.n_Project__nexts, (by exact (by decide : 4 < 1000)), ?_⟩
    exact q n1 n2 _ T _ [("_texts", .ref D), ("sources", .ref sp), ("_serials", .ref M), ("_nexts", .ref C)] (st9.own hpo) (by rw [upd_same]; rfl) (by rw [upd_ne nTp]; exact t9) (by rw [List.length_map, lb])
end
end V5

set_option maxHeartbeats 2000000
/-! len of an instance whose class says it. -/
namespace V5
open PySem PySem.Spec PyProof.Rows L2 K2
section
variable {X : Cx} {C f : Addr} {fd : FuncData} {k : Nat} {sp : Sp}
def rLenOwn (C : Addr) (sp : Sp) : List V → Hp → VK → Prop := fun xs H Q => ∃ (p dx : Addr) (fs : List (Str × V)), xs = [.ref p] ∧ H p = some (.ins C dx fs) ∧ sp [.ref p] H (fun v G => ∃ n : Nat, v = .int (n : Nat) ∧ n < 2 ^ 63 ∧ Q (.int (n : Nat)) G) E0
theorem call_lenOwn (F : FnOk X.prog X.w X.K X.mg X.base CX0 k f fd ["self"] sp) (hr : Room (k + 1) X.A) (hb : Binds X.K fd ["self"] []) (hm : Meth X.K C "__len__" f) : CallR X (.builtin "len") (rLenOwn C sp) := by
  intro pins s σ H xs us Q I r h
  obtain ⟨p, dx, fs, rfl, e, q⟩ := h
  obtain rfl := Vals.ref1 r
  obtain ⟨mA, O, _, _, _, _⟩ := ins_get I.hok e
  obtain ⟨od, J, _⟩ := O.look
  obtain ⟨m, hF⟩ := I.fr
  have b := hb s [.ref p] I.kIn rfl
  refine PySem.W.len_K hF I.ok.mod.kin J hm.at_ hm.fn (wpAny_call (codeAny_mono (F.run X.A.in1 X.stack s H ⟨[.ref p], []⟩ [.ref p] [.ref p] _ E0 hr.in1 I.env0.in1 b (.cons rfl .nil) q) fun r s' hq => ?_))
  cases r with
  | error x => exact absurd hq (by intro z; exact z.elim)
  | ok fl =>
    cases fl with
    | ret u =>
      obtain ⟨z, G, I2, rz, n, rfl, ln, qz⟩ := I.after hq
      obtain ⟨t, rfl⟩ := rz
      exact ⟨⟨by omega, by omega⟩, .int (n : Nat), G, I2.tok _, ⟨_, rfl⟩, qz⟩
    | next => exact False.elim hq
    | brk => exact False.elim hq
    | cont => exact False.elim hq
end
def spPlen (K : PySem.W.Frag) : Sp := fun vs H Q _ => ∃ (p dx T : Addr) (ys : List V) (rest : List (Str × V)), vs = [.ref p] ∧ H p = some (.ins (cPro K) dx (("_files", .ref T) :: rest)) ∧ H T = some (.tup ys) ∧ Q (.int (ys.length : Nat)) H
section
variable {P : Program} {w : World} {K : PySem.W.Frag} {mg : Str → Option Value} {base : Heap}
theorem ok_plen (E : Env K mg) : FnOk P w K mg base CX0 1 (f_Project___len__ K) (fd_Project___len__ K) ["self"] (spPlen K) := by
  refine E.F_Project___len__.ok sc_Project___len__ (fun vs H Q E h => ?_) (fun cdv A outer s H vs Q E1 hr h => ?_)
  · obtain ⟨p, dx, T, ys, rest, rfl, _⟩ := h
    rfl
  · obtain ⟨p, dx, T, ys, rest, rfl, hp, hT, q⟩ := h
    refine ⟨_, pss_one (ps_ret (pe_callB call_len_seq (by rfl) E.u_len PySem.boot_len (pa_cons (pe_fld (pv 0) rfl) pa_nil))), ?_⟩
    exact ⟨_, rfl, p, _, dx, _, _, rfl, hp, E.C_Project.c, E.n_Project__files, rfl, T, ys, rfl, .inr (SqT.of hT), q⟩
end
end V5

set_option maxHeartbeats 2000000
/-! The law puts a part behind the page. -/
namespace V5
open PySem PySem.Spec PyProof.Rows L2 K2

/-- the page of the state at S -/
def Pag (H : Hp) (S : Addr) (x : Str) : Prop := H S = some (.dK [(.inr "page", .str x)])
def spPut : Sp := fun vs H Q _ => ∃ (S : Addr) (x part : Str), vs = [.ref S, .str part] ∧ Pag H S x ∧ x.length + part.length + 1 ≤ 100000 ∧ ∀ H', But S H H' → Pag H' S (x ++ part ++ " ") → Q (.int (x.length : Nat)) H'
theorem line_le {n : Nat} (h : n ≤ 100000) : n ≤ sizeLine := Nat.le_trans h (by decide)
theorem len_app (a b : Str) : (a ++ b).length = a.length + b.length := by
  show (a.cps ++ b.cps).size = _
  rw [Array.size_append]
  rfl
section
variable {P : Program} {w : World} {K : PySem.W.Frag} {mg : Str → Option Value} {base : Heap}
theorem ok_put (E : Env K mg) : FnOk P w K mg base CX0 1 (f__law_put K) (fd__law_put K) ["_law_state", "_law_part"] spPut := by
  refine E.F__law_put.ok sc__law_put (fun vs H Q E h => ?_) (fun cdv A outer s H vs Q E1 hr h => ?_)
  · obtain ⟨S, x, part, rfl, _⟩ := h
    rfl
  · obtain ⟨S, x, part, rfl, hS, len, q⟩ := h
    have nd := sc__law_put.nd
    refine ⟨_, pss_cons (ps_set (i := 2) nd rfl (.inl rfl) (pe_callB call_len_str (by rfl) E.u_len PySem.boot_len (pa_cons (pe_dget (hu_of hr) (pv 0) pe_str (fun _ _ => rfl)) pa_nil)))
      <| pss_cons (ps_dput (hu_of hr) (pv 0) pe_str (pe_op op_add_str (pe_op op_add_str (pe_dget (hu_of hr) (pv 0) pe_str (fun _ _ => rfl)) (pv 1)) pe_str) rfl)
      <| pss_one (ps_ret (pv 2)), ?_⟩
    have get : DGet H S (.str "page") (some (.str x)) := .inl ⟨_, .inr "page", .inl hS, rfl, (valV_pos (p := ((Sum.inr "page" : Key), V.str x)) rfl).symm⟩
    have sp1 : (" " : Str).length = 1 := rfl
    refine ⟨_, rfl, S, .str x, rfl, get, x, rfl, line_le (by omega), ?_⟩
    refine ⟨_, rfl, S, .str x, rfl, get, _, rfl, x, part, rfl, rfl, line_le (by omega), x ++ part, " ", rfl, rfl, line_le (by rw [len_app, sp1]; omega), ?_⟩
    refine ⟨_, rfl, S, _, rfl, DPut.k (k := .inr "page") hS (by show 1 < _; decide), _, rfl, ?_⟩
    refine q _ But.upd ?_
    show upd H S _ S = _
    rw [upd_same]
    unfold putK
    rw [if_pos (by simp)]
    simp
end
end V5

set_option maxHeartbeats 400000
/-! try: .. except X as n: c = n, and what comes behind it, while the exception is kept by c. -/
namespace V5
open PySem PySem.Spec PyProof.Rows L2 K2

/-- a def that may raise, held by a slot -/
structure HeldX (P : Program) (w : World) (K : PySem.W.Frag) (mg : Str → Option Value) (base : Heap) (k : Nat) (f : Addr) (sp : Sp) : Prop where
  ex : ∃ (fd : FuncData) (ps : List Str), FnOk P w K mg base (L2.CX P w) k f fd ps sp ∧ PySem.W.keepIn K (.ref f) = true ∧ Binds K fd ps []
def tCallX (i : Nat) (S : Addr → Sp → Prop) (E : L2.St → XK) (t : TA) : TE := fun σ H Q => ∃ f sp, σ[i]? = some (some (.ref f)) ∧ S f sp ∧ t σ H fun vs H1 => sp vs H1 Q (E σ)
section
variable {X : Cx} {k i : Nat} {x : Str} {p pos : PySem.Pos} {e : Expr} {es : List Expr} {t : TA} {E : L2.St → XK}
theorem pe_callX {S : Addr → Sp → Prop} (A : ∀ f sp, S f sp → HeldX X.prog X.w X.K X.mg X.base k f sp) (hr : Room k X.A) (hN : X.N[i]? = some x) (hv : Vis X.env.scope x) (hx : ∀ σ, PassesAt (L2.CX X.prog X.w) X σ (E σ)) (ha : PA X (e :: es) t)
    (hdb : (x == ("__debug__" : Str)) = false := by decide) (hcd : (x == ("__classdict__" : Str)) = false := by decide)
    (he : starEach (e :: es) X.env = (false, eval e X.env) :: starEach es X.env := by rfl) (hpl : (backTo pos (starEach es X.env)).any (·.1) = false := by rfl) : PE X (.Call (.Name x p) (e :: es) [] pos) (tCallX i S E t) := by
  refine ⟨fun pins s σ H Q I h => ?_⟩
  obtain ⟨f, sp, hs, hS, ht⟩ := h
  obtain ⟨fd, ps, F, hk, hb⟩ := (A f sp hS).ex
  refine wpAny_Call_Name_kw (thn ((pe_var (pos := p) hN hv hdb hcd).run pins s σ H (fun v H1 => v = .ref f ∧ H1 = H) I ⟨.ref f, hs, rfl, rfl⟩) fun u s1 ⟨v, H1, I1, r1, q1⟩ => ?_)
  obtain ⟨rfl, rfl⟩ := q1
  cases r1
  refine PySem.W.callWith_K (h₀ := X.base) I.ok.mod.kin hk (thn (ha.run pos pins s1 σ _ _ I1 ht) fun us s2 ⟨vs, H2, I2, r, q⟩ => ⟨I2.kIn, ?_⟩) he hpl
  exact run_fnS F hr hb (hx σ) I2 r q
end

/-- as X, one more object that stands still -/
def kept_ (X : Cx) (a : Addr) (oe : Obj) : Cx := { X with pn := (a, oe) :: X.pn }
section
variable {X : Cx} {pins : List (Addr × Obj)} {σ : L2.St} {H : Hp} {s : Shared} {a : Addr} {oe : Obj}
theorem Inv.more (I : Inv X ((a, oe) :: pins) σ H s) : Inv (kept_ X a oe) pins σ H s :=
  ⟨⟨I.ok.mod, I.ok.kind, I.ok.glob, I.ok.blt, I.ok.above, I.ok.inj, I.ok.has, I.ok.cab, I.ok.hd, I.ok.frames, I.ok.stk, I.ok.exf, I.ok.bs, I.ok.bsz, I.ok.noex, I.ok.exfs, I.ok.funs, I.ok.frf⟩, I.os, I.bare, I.base, I.loc, I.cell, I.free, I.freeC, fun p hp => I.pin p (by
    have hp : p ∈ (a, oe) :: (X.pn ++ pins) := hp
    rcases List.mem_cons.mp hp with rfl | hp
    · exact List.mem_append_right _ List.mem_cons_self
    · rcases List.mem_append.mp hp with hp | hp
      · exact List.mem_append_left _ hp
      · exact List.mem_append_right _ (List.mem_cons_of_mem _ hp)), I.hok, I.len⟩
theorem Inv.less (ok : X.Ok) (I : Inv (kept_ X a oe) pins σ H s) : Inv X pins σ H s :=
  ⟨ok, I.os, I.bare, I.base, I.loc, I.cell, I.free, I.freeC, fun p hp => I.pin p (List.mem_cons_of_mem _ hp), I.hok, I.len⟩
theorem SP.less {D : Ends} {f : Flow} (ok : X.Ok) (h : SP (kept_ X a oe) pins D f s) : SP X pins D f s := by
  cases f with
  | next =>
    obtain ⟨σ', H', I, q⟩ := h
    exact ⟨σ', H', Inv.less ok I, q⟩
  | brk =>
    obtain ⟨σ', H', I, q⟩ := h
    exact ⟨σ', H', Inv.less ok I, q⟩
  | cont =>
    obtain ⟨σ', H', I, q⟩ := h
    exact ⟨σ', H', Inv.less ok I, q⟩
  | ret u =>
    obtain ⟨v, σ', H', I, r, q⟩ := h
    exact ⟨v, σ', H', Inv.less ok I, r, q⟩
/-- behind a suite, the exception still there -/
theorem Inv.behind {pn' : List (Addr × Obj)} (I : Inv (X.suite a ((a, oe) :: (X.pn ++ pins))) pn' σ H s) (ok : X.Ok) : Inv X ((a, oe) :: pins) σ H s :=
  ⟨ok, I.os, I.bare, I.base, I.loc, I.cell, I.free, I.freeC, fun p hp => I.pin p (List.mem_append_left _ (by
    rcases List.mem_append.mp hp with hp | hp
    · exact List.mem_cons_of_mem _ (List.mem_append_left _ hp)
    · rcases List.mem_cons.mp hp with rfl | hp
      · exact List.mem_cons_self
      · exact List.mem_cons_of_mem _ (List.mem_append_right _ hp))), I.hok, I.len⟩
end
/-- what is wished of an exception: that the clause takes it; the suite's reading, then the rest's -/
def wKeep (K : PySem.W.Frag) (c : Value) (i : Nat) (ts te : Addr → Value → Option Addr → TS) (D : Ends) : WX := fun cls d σ H =>
  PySem.W.exmOne K cls c = some true ∧ ∀ a, H a = none → ts a cls d { nx := fun σ' H' => te a cls d D (σ'.set i none) H', rt := fun _ _ => False, bk := fun _ _ => False, ct := fun _ _ => False } (σ.set i (some (.ref a))) H
section
variable {X : Cx} {x n : Str} {c : Value} {i : Nat} {body suite rest : List Stmt} {b₀ : Stmt} {np pos pos' : PySem.Pos} {tb : WX → TS} {ts te : Addr → Value → Option Addr → TS} {tr : TS}
theorem pss_keep (hs : X.stack = X.env :: X.outer) (hf : X.env.frame = some X.env.locals) (hN : X.N.Nodup) (hi : X.N[i]? = some n) (hln : X.env.kindOf n = some .local) (hc : Names X x c)
    (hb : ∀ (W : WX) (pn : List (Addr × Obj)) (xe : Value → Shared → Prop), Takes (X.tr pn xe) W → PassesOwn (model X.prog X.w) X.A X.env xe → PSs (X.tr pn xe) body (tb W))
    (hsu : ∀ (a : Addr) (oe : Obj) (cls : Value) (d : Option Addr) (pn : List (Addr × Obj)), Zc cls d oe → (∃ vs, oe.data = .fields vs) → PSs (X.suite a ((a, oe) :: pn)) (b₀ :: suite) (ts a cls d))
    (hre : ∀ (a : Addr) (oe : Obj) (cls : Value) (d : Option Addr), Zc cls d oe → (∃ vs, oe.data = .fields vs) → PSs (kept_ X a oe) rest (te a cls d))
    (hrn : PSs X rest tr) :
    PSs X (.Try body [.ExceptHandler (some (.Name x np)) (some n) (b₀ :: suite) pos'] [] [] pos :: rest) (fun D σ H => tb (wKeep X.K c i ts te D) { D with nx := tr D } σ H) := by
  refine ⟨fun pins s σ H D I h => ?_⟩
  have ok := I.ok
  have hfr : X.A.frames = some (X.env :: X.outer) := by rw [ok.frames, hs]
  have hloc : Loc X.env.scope n := .inl hln
  -- the statement's own end: as the body leaves it, or with an exception that stands
  refine wpAny_execs_cons (thn (Q := fun f s' => SP X pins { D with nx := tr D } f s' ∨ (f = .next ∧ ∃ a oe cls d σ' H', Zc cls d oe ∧ (∃ vs, oe.data = .fields vs) ∧ Inv X ((a, oe) :: pins) σ' H' s' ∧ te a cls d D σ' H')) ?_ fun f s1 q => ?_)
  · refine wpAny_Try_except ?_
    let R : Flow → Shared → Prop := fun f s' => SP X pins { D with nx := tr D } f s' ∨ (f = .next ∧ ∃ a oe cls d σ' H', Zc cls d oe ∧ (∃ vs, oe.data = .fields vs) ∧ Inv X ((a, oe) :: pins) σ' H' s' ∧ te a cls d D σ' H')
    refine wpAny_mono ((hb (wKeep X.K c i ts te D) (X.pn ++ pins) (fun e s₁ => wpAny (model X.prog X.w) X.A (noteFrame e X.env) (fun _ s₂ => wpAny (model X.prog X.w) X.A (setFlight e none) (fun _ s₃ =>
      wpAny (model X.prog X.w) X.A (handleBy e X.env [.ExceptHandler (some (.Name x np)) (some n) (b₀ :: suite) pos']) R X.xe s₃) X.xe s₂) X.xe s₁) (fun u s' xx => ?_) PassesOwn.looking).run [] s σ H { D with nx := tr D } (I.toTry _) h) (fun f s1 hsp => ?_) (fun e s1 he => he)
    · obtain ⟨a, B, sI, pins', σ', H', cls, d, rfl, J', nb, up, sky, na, os, ag, hyes, hgo⟩ := xx
      have J : Inv X pins σ' H' sI := J'.ofTry ok
      have sky' : Sky B (X.env :: X.outer) a (Zc cls d) X.env.locals s'.heap := by rw [← hs]; exact sky
      show wpAny (model X.prog X.w) X.A (noteFrame (.ref a) X.env) _ _ _
      refine Sky.land Zc.steady hfr hf sky' fun h3 fl3 up3 => ?_
      have J3 : Inv X pins σ' H' { s' with heap := h3 } := J.landed nb fl3.1 (up.trans up3) os ag
      obtain ⟨o3, v3, g3, z3, d3⟩ := fl3.there
      have noFrame : a ∉ frs (X.env :: X.outer) := fun hm => by
        obtain ⟨_, o', e', hnf⟩ := fl3.2.2.1.mem hm
        rw [g3] at e'
        cases e'
        exact hnf _ d3
      have nL : a ≠ X.env.locals := fun z => noFrame (List.mem_filterMap.mpr ⟨X.env, List.mem_cons_self, by rw [hf, z]⟩)
      have nF : a ∉ X.fs := fun hm => by
        obtain ⟨e, he, q⟩ := List.mem_filterMap.mp hm
        exact noFrame (List.mem_filterMap.mpr ⟨e, List.mem_cons_of_mem _ he, q⟩)
      have S3 := J3.suite g3 d3 na nL nF
      refine wpAny_handleBy_cons (codeAny_handlers_test ?_) (by intro q; cases q)
      have LT : PySem.W.Looks (model X.prog X.w) h3 (typeOf (.ref a)) cls := fun A Q E s k q => wpAny_typeOf_ref (k _ _ g3) (by rw [z3.1]; exact q)
      have LM := PySem.W.exm_one (M := model X.prog X.w) (J3.kIn) LT hyes
      have asks : ∀ {Q : Value → Shared → Prop} {E : Value → Shared → Prop}, Q c { s' with heap := h3 } → wpAny (model X.prog X.w) (X.A.mark (some (.ref a))) (eval (.Name x np) X.env) Q E { s' with heap := h3 } := fun {Q E} q => by
        obtain ⟨hg, hdbg, hm | ⟨hm, hv, hnn⟩⟩ := hc
        · exact ld_glob (X := X.suite a ((a, o3) :: (X.pn ++ pins))) S3 hg hm q hdbg
        · exact ld_blt (X := X.suite a ((a, o3) :: (X.pn ++ pins))) S3 hg hm hv q hnn hdbg
      refine asks (LM.here (codeAny_handlers_suite_as ?_))
      refine HandSPX.lands_againZ fl3 fun h4 fl4 up4 => ?_
      have J4 : Inv X pins σ' H' { s' with heap := h4 } := J.landed nb fl4.1 ((up.trans up3).trans up4) os ag
      obtain ⟨o4, v4, g4, z4, d4⟩ := fl4.there
      have S4 := J4.suite g4 d4 na nL nF
      refine store_ok (X := X.suite a ((a, o4) :: (X.pn ++ pins))) (v := .ref a) S4 hN hi hloc rfl (fun s5 S5 => ?_) (.inr hln)
      refine wpAny_mono ((hsu a o4 cls d (X.pn ++ pins) z4 ⟨_, d4⟩).run [] s5 _ H' _ S5 (hgo a na)) (fun f s6 hsp => ?_) (fun _ _ z => False.elim z)
      cases f with
      | next =>
        obtain ⟨σ6, H6, S6, q6⟩ := hsp
        exact gone_ok (Inv.behind S6 ok) hN hi hln fun s7 J7 => .inr ⟨rfl, a, o4, cls, d, _, _, z4, ⟨_, d4⟩, J7, q6⟩
      | brk =>
        obtain ⟨_, _, _, q⟩ := hsp
        exact q.elim
      | cont =>
        obtain ⟨_, _, _, q⟩ := hsp
        exact q.elim
      | ret u =>
        obtain ⟨_, _, _, _, _, q⟩ := hsp
        exact q.elim
    · cases f with
      | next =>
        obtain ⟨σ', H', J', q⟩ := hsp
        exact wpAny_execs_nil (.inl ⟨σ', H', J'.ofTry ok, q⟩)
      | brk =>
        obtain ⟨σ', H', J', q⟩ := hsp
        exact .inl ⟨σ', H', J'.ofTry ok, q⟩
      | cont =>
        obtain ⟨σ', H', J', q⟩ := hsp
        exact .inl ⟨σ', H', J'.ofTry ok, q⟩
      | ret u =>
        obtain ⟨v, σ', H', J', r, q⟩ := hsp
        exact .inl ⟨v, σ', H', J'.ofTry ok, r, q⟩
  · rcases q with q | ⟨rfl, a, oe, cls, d, σ', H', z, fl, J, q⟩
    · cases f with
      | next =>
        obtain ⟨σ', H', I', q⟩ := q
        exact hrn.run pins s1 σ' H' D I' q
      | ret v => exact q
      | brk => exact q
      | cont => exact q
    · exact thn ((hre a oe cls d z fl).run pins s1 σ' H' D (Inv.more J) q) fun f s2 hq => SP.less ok hq
/-! ### what is asked of the exception that is kept -/
/-- c.f -/
theorem pe_xk {a C : Addr} {oe : Obj} {cls : Value} {d : Option Addr} {e : Expr} {te : TE} {pos : PySem.Pos} {n : Str} (T : XfC X.K C) (hno : PySem.W.findIn X.K (.ref C) n = some none)
    (hz : Zc cls d oe) (hf : ∃ vs, oe.data = .fields vs) (he : PE (kept_ X a oe) e te) (hb : attributeBase e n X.env (eval e X.env) = eval e X.env := by rfl) :
    PE (kept_ X a oe) (.Attribute e n pos) (tXf a cls d C n te) := by
  refine ⟨fun pins s σ H Q I h => ?_⟩
  refine attr_of hb (thn (he.run pins s σ H _ I h) fun u s1 hh => ?_)
  obtain ⟨x, H1, I1, rx, rfl, rfl, dd, fs, v, rfl, ea, l, q⟩ := hh
  obtain rfl : u = Value.ref a := rx
  obtain ⟨ha, _⟩ := I1.pin (a, oe) (List.mem_append_left _ List.mem_cons_self)
  obtain ⟨vs, hd⟩ := hf
  obtain ⟨mA, hns, hr⟩ := (show ObjOk X.prog X.w H1 s1.heap dd (.xd fs) from I1.hok dd _ ea)
  obtain ⟨od, ho, hl⟩ := lookIn_ns hns
  obtain ⟨u, hu, ru⟩ := RelO.some_of (v := v) (o := mA n) (by rw [← l]; exact hr n)
  have J : PySem.W.InstAt s1.heap a oe C (some od) := ⟨ha, hz.1, by unfold PySem.W.notCls; rw [hd], by rw [hz.2]; exact ho⟩
  exact HandSPX.exc_get I1.kIn J T.ga T.gg T.exC (PySem.W.findObj_own T.hdC hno rfl (by rw [hl, hu])) (handed_of ru) ⟨v, H1, I1.tok _, ru, q⟩
/-- what the class must say for isinstance -/
structure IxC (K : PySem.W.Frag) (C : Addr) : Prop where
  cl : (PySem.W.clsIn K C).isSome = true
  ga : PySem.W.findIn K (.ref C) "__getattribute__" = some (some (.builtin "BaseException.__getattribute__"))
  gt : PySem.W.findIn K (.ref C) "__getattr__" = some none
  ex : PySem.W.subIn K (.ref C) (.type "BaseException") = some true
  ha : PySem.W.findIn K (.ref C) "__class__" = some (some (.builtin "object.__class__"))
  hn : PySem.W.specialIn K (.builtin "object.__class__") "__get__" = some (some (.builtin "getset_descriptor.__get__"))
  ht : PySem.W.takesIn K (.builtin "object.__class__") = some true
  hm : PySem.W.mroIn K C (.type "object") = some true
/-- isinstance(c, T) of the kept exception with the dict dd -/
def rIsK (K : PySem.W.Frag) (C a : Addr) (cls : Value) (d : Option Addr) : List V → Hp → VK → Prop := fun xs H Q => ∃ (t : V) (tv : Value) (b : Bool) (dd : Addr) (fs : List (Str × V)), cls = .ref C ∧ d = some dd ∧ xs = [.ref a, t] ∧ ClsV t tv ∧ H dd = some (.xd fs) ∧ PySem.W.kitOne K (.ref C) tv = some b ∧ Q (.bl b) H
theorem inst_kept {a C dd : Addr} {oe : Obj} {pins : List (Addr × Obj)} {σ : L2.St} {H : Hp} {s : Shared} {fs : List (Str × V)} (I : Inv (kept_ X a oe) pins σ H s) (hz : Zc (.ref C) (some dd) oe) (hf : ∃ vs, oe.data = .fields vs) (ea : H dd = some (.xd fs)) : ∃ od, PySem.W.InstAt s.heap a oe C (some od) := by
  obtain ⟨ha, _⟩ := I.pin (a, oe) (List.mem_append_left _ List.mem_cons_self)
  obtain ⟨vs, hd⟩ := hf
  obtain ⟨mA, hns, hr⟩ := (show ObjOk X.prog X.w H s.heap dd (.xd fs) from I.hok dd _ ea)
  obtain ⟨od, ho, hl⟩ := lookIn_ns hns
  exact ⟨od, ha, hz.1, by unfold PySem.W.notCls; rw [hd], by rw [hz.2]; exact ho⟩
theorem call_isK {a C : Addr} {cls : Value} {d : Option Addr} {oe : Obj} (T : IxC X.K C) (hz : Zc cls d oe) (hf : ∃ vs, oe.data = .fields vs) : CallR (kept_ X a oe) (.builtin "isinstance") (rIsK X.K C a cls d) := by
  intro pins s σ H xs us Q I r h
  obtain ⟨t, tv, b, dd, fs, rfl, rfl, rfl, hc, ea, e, q⟩ := h
  obtain ⟨u1, u2, rfl, r1, r2⟩ := vals2 r
  have e2 := hc.eq r2
  subst e2
  cases (show u1 = Value.ref a from r1)
  obtain ⟨od, J⟩ := inst_kept I hz hf ea
  exact PySem.W.kia_one (PySem.W.kitx_exc T.cl T.ga T.gt T.ex T.ha T.hn T.ht T.hm) I.kIn J e (fun z => nomatch z) fun tk => ⟨.bl b, H, I.tok tk, rfl, q⟩
/-- .. of a tuple of classes -/
def rIsKT (K : PySem.W.Frag) (C a : Addr) (cls : Value) (d : Option Addr) : List V → Hp → VK → Prop := fun xs H Q => ∃ (tp : Addr) (cs : List V) (us : List Value) (b : Bool) (dd : Addr) (fs : List (Str × V)), cls = .ref C ∧ d = some dd ∧ xs = [.ref a, .ref tp] ∧ H tp = some (.tup cs) ∧ Paired ClsV cs us ∧ H dd = some (.xd fs) ∧ PySem.W.kitAny K (.ref C) us = some b ∧ Q (.bl b) H
theorem call_isKT {a C : Addr} {cls : Value} {d : Option Addr} {oe : Obj} (T : IxC X.K C) (hz : Zc cls d oe) (hf : ∃ vs, oe.data = .fields vs) : CallR (kept_ X a oe) (.builtin "isinstance") (rIsKT X.K C a cls d) := by
  intro pins s σ H xs us Q I r h
  obtain ⟨tp, cs, ts, b, dd, fs, rfl, rfl, rfl, hT, k, ea, e, q⟩ := h
  obtain ⟨u1, u2, rfl, r1, r2⟩ := vals2 r
  cases (show u2 = Value.ref tp from r2)
  cases (show u1 = Value.ref a from r1)
  obtain ⟨od, J⟩ := inst_kept I hz hf ea
  obtain ⟨_, its, rv, o, h1, h2, n, h3⟩ := (show ObjOk X.prog X.w H s.heap tp (.tup cs) from I.hok tp _ hT)
  have e3 := ClsV.all k rv
  subst e3
  obtain ⟨oc, od', dt, sl⟩ := o
  simp only at h2 h3
  subst h2 h3
  exact PySem.W.kia_tup (PySem.W.kitx_exc T.cl T.ga T.gt T.ex T.ha T.hn T.ht T.hm) I.kIn J h1 e (fun z => nomatch z) fun tk => ⟨.bl b, H, I.tok tk, rfl, q⟩
end
end V5

set_option maxHeartbeats 2000000
/-! What the law is told of an error. -/
namespace V5
open PySem PySem.Spec PyProof.Rows L2 K2

theorem takes_len {X : Cx} {W : WX} (tk : Takes X W) : Takes X (fun cls d σ H => σ.length = X.N.length → W cls d σ H) := fun u s' ⟨a, B, sI, pins, σ, H, cls, d, e, I, nb, up, sky, na, os, ag, w⟩ =>
  tk u s' ⟨a, B, sI, pins, σ, H, cls, d, e, I, nb, up, sky, na, os, ag, w I.len⟩
/-- the exception is told as (word, file, index) -/
def errW (K : PySem.W.Frag) (Q : VK) : XK := fun cls d H1 => cls = .ref (cSE K) ∧ ∃ (dx : Addr) (fs : List (Str × V)) (x f i : V), d = some dx ∧ H1 dx = some (.xd fs) ∧ fs.lookup ("word" : Str) = some x ∧ fs.lookup ("file" : Str) = some f ∧ fs.lookup ("index" : Str) = some i ∧
  ∀ H2 t, Same H1 H2 → H2 t = some (.tup [x, f, i]) → Q (.ref t) H2
def tellErr (K : PySem.W.Frag) : (XK → Hp → VK → Prop) → Hp → VK → Prop := fun tl H Q => ∀ H0, Same H H0 → ∀ (E : XK) (Q0 : VK), (∀ cls d H1, errW K Q cls d H1 → E cls d H1) → (∀ v H1, (∀ l, H1 l = none → Q (.ref l) (upd H1 l (.lst [v]))) → Q0 v H1) → tl E H0 Q0
abbrev errN : List Str := ["_law_ask", "_law_caught", "_law_told", "error"]
section
variable {K : PySem.W.Frag} {mg : Str → Option Value}
theorem Env.seX (E : Env K mg) : XfC K (cSE K) := by
  obtain ⟨a, h⟩ := and2 (ex_at E.more 28 rfl)
  obtain ⟨b, h⟩ := and2 h
  obtain ⟨c, h⟩ := and2 h
  obtain ⟨d, e⟩ := and2 h
  exact ⟨of_decide_eq_true b, of_decide_eq_true c, of_decide_eq_true d, e⟩
theorem Env.seIx (E : Env K mg) : IxC K (cSE K) := by
  obtain ⟨a, h⟩ := and2 (ex_at E.more 28 rfl)
  obtain ⟨b, h⟩ := and2 h
  obtain ⟨c, h⟩ := and2 h
  obtain ⟨d, e⟩ := and2 h
  obtain ⟨i1, i2⟩ := and2 (ex_at E.more 7 rfl)
  exact ⟨of_decide_eq_true a, of_decide_eq_true b, of_decide_eq_true c, of_decide_eq_true d, of_decide_eq_true i1, E.glob.1, E.glob.2, of_decide_eq_true i2⟩
end
theorem gives_error {X : Cx} (E : Env X.K X.mg) {g : Addr} {cdg : Value} {q : Str} : LamX.GivesTo X errN "_law_error" (defScope s__law_error) g cdg (defBody s__law_error) "_law_ask" q (tellErr X.K) := by
  intro f c' s H Q tl ask hc' tell
  have nd := sc__law_error.nd
  refine ⟨_, pss_cons (ps_asg (pe_tup (pa_cons pe_non (pa_cons pe_non pa_nil))) (pg_tup rfl (pgs_cons (pg_name (i := 1) nd rfl (.inl rfl)) (pgs_cons (pg_name (i := 2) nd rfl (.inl rfl)) pgs_nil))))
    (pss_keep (i := 3) rfl rfl nd rfl rfl ⟨rfl, by decide, .inl E.g_BackError⟩
      (fun W pn xe tk _ => pss_one (ps_set (i := 2) nd rfl (.inl rfl) (ask _ pn xe (fun cls d H' => ∀ σ' : L2.St, σ'.length = 4 → W cls d σ' H') _ _ (takes_len tk) (fun cls d σ' H' h => h σ'))))
      (fun a oe cls d pn hz hf => pss_one (ps_set (i := 1) nd rfl (.inl rfl) (pv 3)))
      (fun a oe cls d hz hf => pss_cons (ps_if (pt_cmpR op_isN (pv 1) pe_non (nomark _)) (pss_one ps_never) pss_nil)
        <| pss_cons (ps_if (PW.pt (pw_or (pt_not (pt_val (pe_callB (r := rIsK X.K (cSE X.K) a cls d) (call_isK E.seIx hz hf) (by rfl) E.u_isinstance (by decide +kernel) (pa_cons (pv 1) (pa_cons (pe_glob (v := .ref (cSE X.K)) (by rfl) E.g_SourceError rfl) pa_nil)))))
            (pw_or1 (pt_val (pe_callB (r := rIsKT X.K (cSE X.K) a cls d) (call_isKT E.seIx hz hf) (by rfl) E.u_isinstance (by decide +kernel) (pa_cons (pv 1) (pa_cons (pe_tup (pa_cons (pe_glob (v := .ref (He.ga X.K "BadFiles")) (by rfl) E.g_BadFiles rfl) (pa_cons (pe_glob (v := .ref (He.ga X.K "NoFile")) (by rfl) E.g_NoFile rfl) pa_nil))) pa_nil)))))))
            (pss_one ps_never) pss_nil)
        <| pss_cons (ps_if (pt_not (pt_val (pe_callB (r := rIsK X.K (cSE X.K) a cls d) (call_isK E.seIx hz hf) (by rfl) E.u_isinstance (by decide +kernel) (pa_cons (pv 1) (pa_cons (pe_bltn (v := .ty "ValueError") (by rfl) E.u_ValueError (by decide +kernel) rfl) pa_nil))))) (pss_one ps_never) pss_nil)
        <| pss_one (ps_ret (pe_tup (pa_cons (pe_xk E.seX (E.seN 29 rfl) hz hf (pv 1)) <| pa_cons (pe_xk E.seX (E.seN 30 rfl) hz hf (pv 1)) <| pa_cons (pe_xk E.seX (E.seN 31 rfl) hz hf (pv 1)) pa_nil))))
      (pss_cons (ps_if (pt_cmpR op_isN (pv 1) pe_non (nomark _)) (pss_one (ps_ret (pe_lst (pa_cons (pv 2) pa_nil)))) pss_nil) (pss_cons ps_never <| pss_cons ps_never <| pss_one ps_never))), ?_⟩
  refine ⟨by show 2 ≤ _; decide, fun t0 n0 => ⟨t0, _, rfl, SqT.of upd_same, rfl, _, _, rfl, _, _, rfl, rfl, ?_⟩⟩
  have sm0 : Same H (upd H t0 (.tup [.non, .non])) := same_new n0
  generalize upd H t0 (.tup [.non, .non]) = H0 at sm0 ⊢
  refine ⟨rfl, sm0 _ _ hc', tell H0 sm0 _ _ (fun cls d H1 h => ?_) (fun v H1 h => ?_)⟩
  · obtain ⟨rfl, dx, fs, x, fl, i, rfl, hd, k1, k2, k3, fin⟩ := h
    intro σ' len
    match σ', len with
    | [s0, s1, s2, s3], _ =>
      refine ⟨of_decide_eq_true (ex_at E.more 32 rfl), fun a na => ⟨_, rfl, ?_⟩⟩
      refine ⟨_, rfl, rfl, _, rfl, iteF ?_⟩
      refine ⟨_, rfl, .ref (cSE X.K), _, true, dx, _, rfl, rfl, rfl, .own _, hd, kit_self, _, rfl, iteF ?_⟩
      refine ⟨_, rfl, by show 2 ≤ _; decide, fun t3 n3 => ?_⟩
      have sm3 : Same H1 (upd H1 t3 (.tup [.ref (He.ga X.K "BadFiles"), .ref (He.ga X.K "NoFile")])) := same_new n3
      refine ⟨t3, _, _, false, dx, _, rfl, rfl, rfl, upd_same, .cons (.own _) (.cons (.own _) .nil), sm3 _ _ hd, any2 (E.kit 33 rfl) (E.kit 34 rfl), _, rfl, iteF ?_⟩
      generalize upd H1 t3 (.tup [.ref (He.ga X.K "BadFiles"), .ref (He.ga X.K "NoFile")]) = H2 at sm3 ⊢
      refine ⟨_, rfl, .ty "ValueError", _, true, dx, _, rfl, rfl, rfl, .ty "ValueError", sm3 _ _ hd, of_decide_eq_true (ex_at E.more 35 rfl), _, rfl, iteF ?_⟩
      refine ⟨_, rfl, rfl, rfl, dx, _, x, rfl, sm3 _ _ hd, k1, ?_⟩
      refine ⟨_, rfl, rfl, rfl, dx, _, fl, rfl, sm3 _ _ hd, k2, ?_⟩
      refine ⟨_, rfl, rfl, rfl, dx, _, i, rfl, sm3 _ _ hd, k3, by show 3 ≤ _; decide, fun t ht => ?_⟩
      exact fin _ t (fun b o e => same_new ht _ _ (sm3 _ _ e)) upd_same
  · exact ⟨_, rfl, rfl, _, rfl, iteT ⟨_, rfl, by show 1 ≤ _; decide, fun l hl => h l hl⟩⟩
end V5

set_option maxHeartbeats 2000000
/-! The lambda that the law hands on: len(Project(given)). -/
namespace V5
open PySem PySem.Spec PyProof.Rows L2 K2

/-- the lambda's body -/
def tAsk (K : PySem.W.Frag) (E : XK) : TE := fun σ H Q => ∃ g : Addr, σ[7]? = some (some (.ref g)) ∧ ∀ x dx, H x = none → H dx = none → dx ≠ x →
  spProj K [.ref x, .ref g] (upd (upd H dx (.own x)) x (.ins (cPro K) dx [])) (fun v H2 => v = .non ∧ rLenOwn (cPro K) (spPlen K) [.ref x] H2 Q) E
theorem pe_ask {X : Cx} (EV : Env X.K X.mg) {A : Around} {outer : List PySem.Env} {s : Shared} {H : Hp} {E : XK} {scope : Scope} {f c' : Addr} {p1 p2 p3 p4 p5 : PySem.Pos} (hN : X.N[7]? = some ("_law_given" : Str)) (hr : Room 15 (A.deeper (LamX.lamEnv X scope s.heap.objs.size f c'))) (gl : Gl (LamX.lamCx X A outer s H E scope f c') "len")
    (gp : Gl (LamX.lamCx X A outer s H E scope f c') "Project") (vis : Vis scope "_law_given") :
    PE (LamX.lamCx X A outer s H E scope f c') (.Call (.Name "len" p1) [.Call (.Name "Project" p2) [.Name "_law_given" p3] [] p4] [] p5) (tAsk X.K E) := by
  have GP : FnOk X.prog X.w X.K X.mg X.base (CX X.prog X.w) 14 (f_Project___init__ X.K) (fd_Project___init__ X.K) ["self", "files"] (spProj X.K) := ok_Project EV
  have GL : FnOk X.prog X.w X.K X.mg X.base CX0 1 (f_Project___len__ X.K) (fd_Project___len__ X.K) ["self"] (spPlen X.K) := ok_plen EV
  have h := pe_callB (X := LamX.lamCx X A outer s H E scope f c') (p := p1) (pos := p5) (call_lenOwn (X := LamX.lamCx X A outer s H E scope f c') GL (hr.mono (by decide)) EV.M_Project___len__.b EV.M_Project___len__.m) gl EV.u_len PySem.boot_len
    (pa_cons (pe_make (X := LamX.lamCx X A outer s H E scope f c') (pos := p4) (p := p2) EV.C_Project.k GP hr gp EV.C_Project.g EV.C_Project.b .nil (passes_call (takes_of rfl rfl rfl rfl) fun _ _ _ _ z => z) (pa_cons (pe_var (X := LamX.lamCx X A outer s H E scope f c') (pos := p3) hN vis) pa_nil)) pa_nil)
  refine ⟨fun pins s2 σ H2 Q I q => h.run pins s2 σ H2 Q I ?_⟩
  obtain ⟨g, hg, h2⟩ := q
  refine ⟨_, hg, fun x dx hx hdx ne => ?_⟩
  exact h2 x dx hx hdx ne
end V5

set_option maxHeartbeats 2000000
/-! What the law holds due. -/
namespace V5
open PySem PySem.Spec PyProof.Rows L2 K2

/-- a file as the law knows it: name, what it brings in, its own -/
structure Fd where
  n : Str
  a : List Mk
  o : List Mk
/-- the first that may not be brought in -/
def impL (names known : List Str) : List Mk → Option Nat
  | [] => none
  | m :: r => if m.n ∈ known ∨ m.n ∉ names then some m.i else impL names (known ++ [m.n]) r
def firstImp (names : List Str) : List Fd → Option (Str × Nat)
  | [] => none
  | d :: r => match impL names [d.n] d.a with
    | some i => some (d.n, i)
    | none => firstImp names r
/-- what stands twice: own ones, then brought in -/
def ownL (known : List Str) : List Mk → List Nat
  | [] => []
  | m :: r => (if m.n ∈ known then [m.i] else []) ++ ownL (known ++ [m.n]) r
def ownsOf (ds : List Fd) (n : Str) : List Str := match ds.find? fun d => decide (d.n = n) with
  | some d => d.o.map (·.n)
  | none => []
def aheadL (ds : List Fd) (known : List Str) : List Mk → List Nat
  | [] => []
  | m :: r => (if (ownsOf ds m.n).any (fun x => decide (x ∈ known)) = true then [m.i] else []) ++ aheadL ds (known ++ ownsOf ds m.n) r
def wrongL (ds : List Fd) (d : Fd) : List Nat := ownL [] d.o ++ aheadL ds (d.o.map (·.n)) d.a
def firstTw (ds : List Fd) : List Fd → Option (Str × Nat)
  | [] => none
  | d :: r => if wrongL ds d = [] then firstTw ds r else some (d.n, mn (wrongL ds d))
/-! ### it is the program's own -/
theorem ownL_rep : ∀ (ms : List Mk) (k : List Str), ownL k ms = repF k ms
  | [], _ => rfl
  | m :: r, k => by
    unfold ownL repF
    rw [ownL_rep r]
theorem aheadL_bro (ds : List Fd) (fs : List Fi) (h : ∀ n, ownsOf ds n = decN fs n) : ∀ (ms : List Mk) (k : List Str), aheadL ds k ms = broF fs k ms
  | [], _ => rfl
  | m :: r, k => by
    unfold aheadL broF
    rw [aheadL_bro ds fs h r, h]
/-- the file as the tree tells it -/
def fdOf' (f : Fi) : Fd := ⟨f.f, f.im, f.ds.map De.m⟩
theorem ownsOf_dec : ∀ (fs : List Fi) (n : Str), ownsOf (fs.map fdOf') n = decN fs n
  | [], n => rfl
  | f :: fs, n => by
    have ih := ownsOf_dec fs n
    unfold ownsOf decN at ih ⊢
    rw [List.map_cons, List.find?_cons, List.find?_cons]
    by_cases e : f.f = n
    · rw [show (decide ((fdOf' f).n = n)) = true from decide_eq_true e, show (decide (f.f = n)) = true from decide_eq_true e]
      show (f.ds.map De.m).map (·.n) = _
      rw [List.map_map]
      rfl
    · rw [show (decide ((fdOf' f).n = n)) = false from decide_eq_false e, show (decide (f.f = n)) = false from decide_eq_false e]
      exact ih
theorem wrong_tw (fs : List Fi) (f : Fi) : wrongL (fs.map fdOf') (fdOf' f) = twF fs f := by
  unfold wrongL twF
  rw [ownL_rep, aheadL_bro _ fs (ownsOf_dec fs)]
  show repF [] (f.ds.map De.m) ++ broF fs ((f.ds.map De.m).map (·.n)) f.im = _
  rw [List.map_map]
  rfl
theorem tw_due (all : List Fi) : ∀ (fs : List Fi), firstTw (all.map fdOf') (fs.map fdOf') = dueF fs (fs.map (twF all))
  | [] => rfl
  | f :: fs => by
    show (if wrongL (all.map fdOf') (fdOf' f) = [] then firstTw (all.map fdOf') (fs.map fdOf') else some (f.f, mn (wrongL (all.map fdOf') (fdOf' f)))) = (if twF all f = [] then dueF fs (fs.map (twF all)) else some (f.f, mn (twF all f)))
    rw [wrong_tw, tw_due all fs]
/-! ### what is brought in, and where -/
def impN (fs : List Fi) (f : Str) (seen : List Str) (ms : List Mk) : List Nat := (ms.filter (impB fs f)).map (·.i) ++ repF seen ms
theorem repF_mem : ∀ {ms : List Mk} {s : List Str} {x : Nat}, x ∈ repF s ms → ∃ m ∈ ms, m.i = x
  | m :: r, s, x, h => by
    unfold repF at h
    rcases List.mem_append.mp h with h | h
    · split at h
      · rw [List.mem_singleton] at h
        exact ⟨m, List.mem_cons_self, h.symm⟩
      · cases h
    · obtain ⟨y, hy, e⟩ := repF_mem h
      exact ⟨y, List.mem_cons_of_mem _ hy, e⟩
theorem impN_mem {fs : List Fi} {f : Str} {seen : List Str} {ms : List Mk} {x : Nat} (h : x ∈ impN fs f seen ms) : ∃ m ∈ ms, m.i = x := by
  rcases List.mem_append.mp h with h | h
  · obtain ⟨m, hm, e⟩ := List.mem_map.mp h
    exact ⟨m, (List.mem_filter.mp hm).1, e⟩
  · exact repF_mem h
theorem has_iff (fs : List Fi) (n : Str) : V5.has fs n = true ↔ n ∈ fs.map (·.f) := by
  unfold V5.has
  rw [List.any_eq_true, List.mem_map]
  exact ⟨fun ⟨f, hf, e⟩ => ⟨f, hf, of_decide_eq_true e⟩, fun ⟨f, hf, e⟩ => ⟨f, hf, decide_eq_true e⟩⟩
theorem imp_one (fs : List Fi) (f : Str) : ∀ (ms : List Mk) (seen : List Str), ms.Pairwise (fun a b => a.i < b.i) →
    (impL (fs.map (·.f)) (f :: seen) ms = none ∧ impN fs f seen ms = []) ∨ ∃ i, impL (fs.map (·.f)) (f :: seen) ms = some i ∧ impN fs f seen ms ≠ [] ∧ mn (impN fs f seen ms) = i
  | [], seen, _ => .inl ⟨rfl, rfl⟩
  | m :: r, seen, asc => by
    obtain ⟨lo, asc2⟩ := List.pairwise_cons.mp asc
    by_cases bad : m.n ∈ f :: seen ∨ m.n ∉ fs.map (·.f)
    · refine .inr ⟨m.i, if_pos bad, ?_⟩
      have mem : m.i ∈ impN fs f seen (m :: r) := by
        by_cases b : impB fs f m = true
        · exact List.mem_append_left _ (List.mem_map_of_mem (List.mem_filter.mpr ⟨List.mem_cons_self, b⟩))
        · have s1 : m.n ∈ seen := by
            unfold impB at b
            rw [Bool.or_eq_true, not_or] at b
            obtain ⟨b1, b2⟩ := b
            have nf : m.n ≠ f := fun z => b1 (decide_eq_true z)
            have hs : V5.has fs m.n = true := by
              cases z : V5.has fs m.n with
              | true => rfl
              | false =>
                rw [z] at b2
                exact absurd rfl b2
            rcases bad with h | h
            · rcases List.mem_cons.mp h with h | h
              · exact absurd h nf
              · exact h
            · exact absurd ((has_iff fs m.n).mp hs) h
          refine List.mem_append_right _ ?_
          unfold repF
          rw [if_pos s1]
          exact List.mem_append_left _ (List.mem_singleton.mpr rfl)
      have ne : impN fs f seen (m :: r) ≠ [] := fun z => by
        rw [z] at mem
        cases mem
      refine ⟨ne, Nat.le_antisymm (mn_le mem) ?_⟩
      obtain ⟨y, hy, e⟩ := impN_mem (mn_mem ne)
      rw [← e]
      rcases List.mem_cons.mp hy with rfl | hy
      · exact Nat.le_refl _
      · exact Nat.le_of_lt (lo y hy)
    · have b1 : m.n ∉ f :: seen := fun z => bad (.inl z)
      have b2 : m.n ∈ fs.map (·.f) := Classical.byContradiction fun z => bad (.inr z)
      have nb : impB fs f m = false := by
        unfold impB
        rw [(has_iff fs m.n).mpr b2, decide_eq_false (fun z => b1 (by rw [z]; exact List.mem_cons_self))]
        rfl
      have e1 : impL (fs.map (·.f)) (f :: seen) (m :: r) = impL (fs.map (·.f)) (f :: (seen ++ [m.n])) r := if_neg bad
      have e2 : impN fs f seen (m :: r) = impN fs f (seen ++ [m.n]) r := by
        unfold impN
        rw [List.filter_cons, nb]
        show _ ++ ((if m.n ∈ seen then [m.i] else []) ++ _) = _
        rw [if_neg (fun z => b1 (List.mem_cons_of_mem _ z))]
        rfl
      rw [e1, e2]
      exact imp_one fs f r (seen ++ [m.n]) asc2
theorem imp_due (all : List Fi) : ∀ (fs : List Fi), (∀ f ∈ fs, f.im.Pairwise fun a b => a.i < b.i) → firstImp (all.map (·.f)) (fs.map fdOf') = dueF fs (fs.map (impF all))
  | [], _ => rfl
  | f :: fs, h => by
    have ih := imp_due all fs fun g hg => h g (List.mem_cons_of_mem _ hg)
    have e : impF all f = impN all f.f [] f.im := rfl
    show (match impL (all.map (·.f)) [f.f] f.im with | some i => some (f.f, i) | none => firstImp (all.map (·.f)) (fs.map fdOf')) = (if impF all f = [] then dueF fs (fs.map (impF all)) else some (f.f, mn (impF all f)))
    rw [e]
    rcases imp_one all f.f f.im [] (h f List.mem_cons_self) with ⟨a, b⟩ | ⟨i, a, b, c⟩
    · rw [a, if_pos b]
      exact ih
    · rw [a, if_neg b, c]
end V5

set_option maxHeartbeats 400000
/-! What is due: what the dict of own names tells. -/
namespace V5
open PySem PySem.Spec PyProof.Rows L2 K2

theorem impL_names (names : List Str) : ∀ (ms : List Mk) (known : List Str), impL names known ms = none → ∀ m ∈ ms, m.n ∈ names
  | m :: r, known, h, m', hm => by
    unfold impL at h
    by_cases b : m.n ∈ known ∨ m.n ∉ names
    · rw [if_pos b] at h
      cases h
    · rw [if_neg b] at h
      rcases List.mem_cons.mp hm with rfl | hm
      · exact Classical.byContradiction fun z => b (.inr z)
      · exact impL_names names r _ h m' hm
theorem firstImp_names (names : List Str) : ∀ ds : List Fd, firstImp names ds = none → ∀ d ∈ ds, ∀ m ∈ d.a, m.n ∈ names
  | d :: r, h, d', hd => by
    unfold firstImp at h
    cases e : impL names [d.n] d.a with
    | some i =>
      rw [e] at h
      cases h
    | none =>
      rw [e] at h
      rcases List.mem_cons.mp hd with rfl | hd
      · exact impL_names names _ _ e
      · exact firstImp_names names r h d' hd
theorem ownsOf_at {ds : List Fd} {n : Str} (h : n ∈ ds.map (·.n)) : ∃ d ∈ ds, d.n = n ∧ ownsOf ds n = d.o.map (·.n) := by
  unfold ownsOf
  cases e : ds.find? fun d => decide (d.n = n) with
  | none =>
    obtain ⟨d, hd, ed⟩ := List.mem_map.mp h
    exact absurd ed (by simpa using List.find?_eq_none.mp e d hd)
  | some d => exact ⟨d, List.mem_of_find?_eq_some e, by simpa using List.find?_some e, rfl⟩
theorem valV_mergeN {k : Key} : ∀ (kvs acc : List (Key × V)), (∀ kv ∈ kvs, kv.1 ≠ k) → valV (mergeK acc kvs) k = valV acc k
  | [], _, _ => rfl
  | kv :: r, acc, h => by
    show valV (mergeK (putK acc kv.1 kv.2) r) k = _
    rw [valV_mergeN r _ fun q hq => h q (List.mem_cons_of_mem _ hq), valV_put, if_neg (fun z => h kv List.mem_cons_self z.symm)]
theorem valV_mergeS {k : Key} {v : V} : ∀ (kvs acc : List (Key × V)), (kvs.map (·.1)).Nodup → (k, v) ∈ kvs → valV (mergeK acc kvs) k = some v
  | kv :: r, acc, nd, h => by
    rw [List.map_cons, List.nodup_cons] at nd
    show valV (mergeK (putK acc kv.1 kv.2) r) k = _
    rcases List.mem_cons.mp h with rfl | h
    · rw [valV_mergeN r _ fun q hq z => nd.1 (by rw [show (k, v).1 = q.1 from z.symm]; exact List.mem_map_of_mem hq), valV_put, if_pos rfl]
    · exact valV_mergeS r _ nd.2 h
theorem A2.paired {α β : Type} {R : α → β → Prop} : ∀ {as : List α} {bs : List β}, A2 R as bs → Paired R as bs
  | _, _, .nil => .nil
  | _, _, .cons x r => .cons x r.paired
theorem A2.imp2 {α β : Type} {R S : α → β → Prop} : ∀ {as : List α} {bs : List β}, A2 R as bs → (∀ a b, a ∈ as → R a b → S a b) → A2 S as bs
  | _, _, .nil, _ => .nil
  | _, _, .cons x r, h => .cons (h _ _ List.mem_cons_self x) (A2.imp2 r fun a b z => h a b (List.mem_cons_of_mem _ z))
/-- a pair of the dict's -/
def RKv (H : Hp) (p : Addr) (kv : Key × V) : Prop := H p = some (.tup [kV kv.1, kv.2])
def ROwn (D : Addr) (H : Hp) (kv : Key × V) (d : Fd) : Prop := kv.1 = .inr d.n ∧ ∃ W, kv.2 = .ref W ∧ W ≠ D ∧ H W = some (.lst ((d.o.map (·.n)).map V.str))
theorem ROwn.keys {D : Addr} {H : Hp} : ∀ {kvs : List (Key × V)} {ds : List Fd}, A2 (ROwn D H) kvs ds → kvs.map (·.1) = (ds.map (·.n)).map Sum.inr
  | _, _, .nil => rfl
  | _, _, .cons ⟨e, _⟩ r => by rw [List.map_cons, List.map_cons, List.map_cons, e, ROwn.keys r]
theorem ROwn.val {D : Addr} {H : Hp} {kvs : List (Key × V)} {ds : List Fd} (r : A2 (ROwn D H) kvs ds) (nd : (ds.map (·.n)).Nodup) {n : Str} (h : n ∈ ds.map (·.n)) :
    ∃ W, valV (mergeK [] kvs) (.inr n) = some (.ref W) ∧ H W = some (.lst ((ownsOf ds n).map V.str)) := by
  obtain ⟨d, hd, rfl, e⟩ := ownsOf_at h
  obtain ⟨⟨k, v⟩, hkv, e1, W, e2, _, hW⟩ := r.memR hd
  dsimp only at e1 e2
  subst e1 e2
  refine ⟨W, valV_mergeS kvs [] ?_ hkv, by rw [e]; exact hW⟩
  rw [ROwn.keys r]
  exact List.pairwise_map.mpr (List.Pairwise.imp (fun h z => h (Sum.inr.inj z)) nd)
def natD (l : List Nat) : PyData := .list (l.map fun n => PyData.int ((n : Nat) : Int))
theorem natD_all {K : PySem.W.Frag} {H : Hp} : ∀ l : List Nat, DpAll K H (nms l) (l.map fun n => PyData.int ((n : Nat) : Int))
  | [] => .nil
  | a :: r => .cons (.int _) (natD_all r)
theorem natD_lay : ∀ l : List Nat, PyData.canLayAll0 (l.map fun n => PyData.int ((n : Nat) : Int)) = true ∧ PyData.depthAll (l.map fun n => PyData.int ((n : Nat) : Int)) ≤ 1
  | [] => ⟨by decide +kernel, by decide +kernel⟩
  | a :: r => by
    obtain ⟨h1, h2⟩ := natD_lay r
    rw [List.map_cons]
    simp only [PyData.canLayAll0, PyData.canLay0, PyData.depthAll, PyData.depth, Bool.and_eq_true, h1]
    refine ⟨by simp, ?_⟩
    omega
theorem natD_shaped (l : List Nat) : SeqAt.shaped (natD l) = true := by
  obtain ⟨h1, h2⟩ := natD_lay l
  unfold SeqAt.shaped natD
  rw [PyData.canLay0, h1, Bool.true_and]
  exact decide_eq_true (by simp only [PyData.depth]; omega)
theorem wrongL_own (d : Fd) (ds : List Fd) : wrongL ds d = ownL [] d.o ++ aheadL ds (d.o.map (·.n)) d.a := rfl
theorem ownsOf_few {ds : List Fd} (few : ∀ d ∈ ds, d.a.length ≤ 20 ∧ d.o.length ≤ 20) (n : Str) : (ownsOf ds n).length ≤ 20 := by
  unfold ownsOf
  cases e : ds.find? fun d => decide (d.n = n) with
  | none => exact Nat.zero_le _
  | some d =>
    show (d.o.map _).length ≤ 20
    rw [List.length_map]
    exact (few d (List.mem_of_find?_eq_some e)).2
end V5

/-! What stands in a page, part by part. -/
namespace V5
open K2

/-- from l at p on stands T, then l' at p' -/
def Sc (p : Nat) (l : List Nat) (T : List (Nat × List Nat)) (p' : Nat) (l' : List Nat) : Prop := scan p l = T ++ scan p' l' ∧ clean l = clean l'
theorem Sc.refl (p : Nat) (l : List Nat) : Sc p l [] p l := ⟨rfl, rfl⟩
theorem Sc.comp {p p' p'' : Nat} {l l' l'' : List Nat} {T U : List (Nat × List Nat)} (x : Sc p l T p' l') (y : Sc p' l' U p'' l'') : Sc p l (T ++ U) p'' l'' :=
  ⟨by rw [x.1, y.1, List.append_assoc], x.2.trans y.2⟩
theorem Sc.gap {p : Nat} {r : List Nat} : Sc p (32 :: r) [] (p + 1) r := by
  have e : skip (32 :: r) = 1 + skip ((32 :: r).drop 1) := skip_gap (by decide)
  exact ⟨scan_shift e, clean_shift e (by simp)⟩
theorem Sc.tok {p c : Nat} {t r : List Nat} (g : isGap c = false) (n : c ≠ 35) (k : tokL (c :: t ++ r) = (c :: t).length) : Sc p (c :: t ++ r) [(p, c :: t)] (p + (c :: t).length) r := by
  have ne : tokL (c :: (t ++ r)) ≠ 0 := by
    rw [show c :: (t ++ r) = c :: t ++ r from rfl, k]
    simp
  have a := scan_here (pos := p) g n ne
  have b := clean_here g n ne
  rw [show c :: (t ++ r) = c :: t ++ r from rfl, k] at a b
  rw [List.take_left' rfl, List.drop_left' rfl] at a
  rw [List.drop_left' rfl] at b
  exact ⟨a, b⟩
theorem tokL_sign {c : Nat} {r : List Nat} (h : isSign c = true) : tokL (c :: r) = 1 := by
  rw [tokL_cons, if_pos h]
theorem let_sign {c : Nat} (h : isLet c = true) : isSign c = false := by
  cases z : isSign c with
  | false => rfl
  | true =>
    have := (show ∀ d ∈ signs, isLet d = false by decide) c (List.contains_iff_mem.mp z)
    rw [h] at this
    cases this
theorem let_gap {c : Nat} (h : isLet c = true) : isGap c = false ∧ c ≠ 35 := by
  unfold isLet at h
  simp at h
  unfold isGap
  constructor
  · simp
    omega
  · omega
theorem tokL_word {c : Nat} {t r : List Nat} (h : ∀ x ∈ c :: t, isLet x = true) (hr : span isLet r = 0) : tokL (c :: t ++ r) = (c :: t).length := by
  have hc := h c List.mem_cons_self
  rw [List.cons_append, tokL_cons, if_neg (by rw [let_sign hc]; exact Bool.false_ne_true), if_pos hc, ← List.cons_append, span_app h, hr]
  rfl
theorem Sc.word {p c : Nat} {t r : List Nat} (h : ∀ x ∈ c :: t, isLet x = true) (hr : span isLet r = 0) : Sc p (c :: t ++ r) [(p, c :: t)] (p + (c :: t).length) r := by
  have := let_gap (h c List.mem_cons_self)
  exact Sc.tok this.1 this.2 (tokL_word h hr)
theorem Sc.sign {p c : Nat} {r : List Nat} (h : isSign c = true) (g : isGap c = false) (n : c ≠ 35) : Sc p (c :: r) [(p, [c])] (p + 1) r :=
  Sc.tok (t := []) g n (tokL_sign h)
theorem Sc.one {p : Nat} {r : List Nat} : Sc p (49 :: 32 :: r) [(p, [49])] (p + 1) (32 :: r) := by
  refine Sc.tok (t := []) (r := 32 :: r) (by decide) (by decide) ?_
  show tokL (49 :: 32 :: r) = 1
  have e : span isDig (49 :: 32 :: r) = 1 := by rw [span_pos (by decide), span_neg (by decide)]
  rw [tokL_cons, e]
  rfl

/-- what stands in l, whatever comes behind -/
def Closed (l : List Nat) (T : List (Nat × List Nat)) : Prop := ∀ r, Sc 0 (l ++ r) T l.length r
/-- a part, a blank behind it -/
def Part (t : List Nat) (U : Nat → List (Nat × List Nat)) : Prop := ∀ p r, Sc p (t ++ 32 :: r) (U p) (p + t.length + 1) r
theorem Closed.put {l t : List Nat} {T : List (Nat × List Nat)} {U : Nat → List (Nat × List Nat)} (h : Closed l T) (p : Part t U) : Closed (l ++ t ++ [32]) (T ++ U l.length) := by
  intro r
  have := (h (t ++ 32 :: r)).comp (p l.length r)
  rw [List.length_append, List.length_append, List.append_assoc, List.append_assoc]
  exact this
theorem Closed.nil : Closed [] [] := fun r => Sc.refl 0 r
theorem Closed.feed : Closed [10] [] := fun r => by
  have e : skip (10 :: r) = 1 + skip ((10 :: r).drop 1) := skip_gap (by decide)
  exact ⟨scan_shift e, clean_shift e (by simp)⟩
theorem Closed.rem : Closed [35, 32, 120, 10] [] := fun r => by
  have e : skip ([35, 32, 120, 10] ++ r) = 4 + skip (([35, 32, 120, 10] ++ r).drop 4) := by
    show skip (35 :: 32 :: 120 :: 10 :: r) = 4 + skip r
    have s : span noFeed (32 :: 120 :: 10 :: r) = 2 := by rw [span_pos (by decide), span_pos (by decide), span_neg (by decide)]
    rw [skip_hash, s]
    show 1 + 2 + skip (10 :: r) = _
    rw [skip_gap (by decide)]
    omega
  exact ⟨scan_shift e, clean_shift e (by simp)⟩
theorem Part.word {c : Nat} {t : List Nat} (h : ∀ x ∈ c :: t, isLet x = true) : Part (c :: t) fun p => [(p, c :: t)] := fun p r =>
  (Sc.word h (r := 32 :: r) (span_neg (by decide))).comp Sc.gap
theorem Part.body : Part [123, 32, 110, 58, 32, 49, 32, 125] fun p => [(p, [123]), (p + 2, [110]), (p + 3, [58]), (p + 5, [49]), (p + 7, [125])] := fun p r =>
  (Sc.sign (by decide) (by decide) (by decide)).comp <| Sc.gap.comp <| (Sc.word (c := 110) (t := []) (by decide) (r := 58 :: 32 :: 49 :: 32 :: 125 :: 32 :: r) (span_neg (by decide))).comp <|
  (Sc.sign (by decide) (by decide) (by decide)).comp <| Sc.gap.comp <| Sc.one.comp <| Sc.gap.comp <| (Sc.sign (by decide) (by decide) (by decide)).comp Sc.gap
theorem Part.goods : Part [40, 110, 58, 32, 110, 117, 109, 98, 101, 114, 41, 32, 91, 32, 93] fun p => [(p, [40]), (p + 1, [110]), (p + 2, [58]), (p + 4, [110, 117, 109, 98, 101, 114]), (p + 10, [41]), (p + 12, [91]), (p + 14, [93])] := fun p r =>
  (Sc.sign (by decide) (by decide) (by decide)).comp <| (Sc.word (c := 110) (t := []) (by decide) (r := 58 :: 32 :: 110 :: 117 :: 109 :: 98 :: 101 :: 114 :: 41 :: 32 :: 91 :: 32 :: 93 :: 32 :: r) (span_neg (by decide))).comp <|
  (Sc.sign (by decide) (by decide) (by decide)).comp <| Sc.gap.comp <| (Sc.word (c := 110) (t := [117, 109, 98, 101, 114]) (by decide) (r := 41 :: 32 :: 91 :: 32 :: 93 :: 32 :: r) (span_neg (by decide))).comp <|
  (Sc.sign (by decide) (by decide) (by decide)).comp <| Sc.gap.comp <| (Sc.sign (by decide) (by decide) (by decide)).comp <| Sc.gap.comp <| (Sc.sign (by decide) (by decide) (by decide)).comp Sc.gap
theorem Closed.end_ {l : List Nat} {T : List (Nat × List Nat)} (h : Closed l T) : scan 0 l = T ∧ clean l = true := by
  obtain ⟨a, b⟩ := h []
  rw [List.append_nil] at a b
  rw [scan_nil, List.append_nil] at a
  refine ⟨a, b.trans ?_⟩
  rw [clean_end (by rw [skip_nil]; rfl), skip_nil]
  rfl
end V5

set_option maxHeartbeats 400000
/-! A page, part by part. -/
namespace V5
open PySem PySem.Spec PyProof.Rows L2 K2
open PySem.NumText (digitsVal AllDigits)

theorem cp_app (a b : Str) : cp (a ++ b) = cp a ++ cp b := by
  show (a.cps ++ b.cps).toList = _
  exact Array.toList_append
theorem strT_is {p : Nat} {l : List Nat} {s : Str} (h : cp s = l) : strT (p, l) = (p, s) := by
  subst h
  rfl
theorem PIm.snoc {m : Mk} : ∀ {im : List Mk} {L M L' : List Tk}, PIm im L M → (∃ L1, PTok "\x69mport" M L1 ∧ PName m L1 L') → PIm (im ++ [m]) L L'
  | [], L, M, L', e, ⟨L1, a, b⟩ => by
    have e : L = M := e
    subst e
    exact ⟨L1, L', a, b, rfl⟩
  | k :: r, L, M, L', ⟨L1, L2, a, b, c⟩, d => ⟨L1, L2, a, b, PIm.snoc c d⟩
theorem PDs.snoc {d : De} : ∀ {ds : List De} {L M L' : List Tk}, PDs ds L M → PDe d M L' → PDs (ds ++ [d]) L L'
  | [], L, M, L', e, a => by
    have e : L = M := e
    subst e
    exact ⟨L', a, rfl⟩
  | k :: r, L, M, L', ⟨L1, a, b⟩, d => ⟨L1, a, PDs.snoc b d⟩
theorem nm_cps {w : Str} (h : isNm w = true) : ∃ c t, cp w = c :: t ∧ ∀ x ∈ c :: t, isLet x = true := by
  have hl := isNm_lt h
  unfold isNm at h
  simp only [Bool.and_eq_true, decide_eq_true_eq] at h
  have h1 : 1 ≤ (cp w).length := by
    rw [cp_len]
    exact h.1.1.1
  have ha : ∀ x ∈ cp w, isLet x = true := fun x hx => by
    have := List.all_eq_true.mp h.1.2 x hx
    rw [← letters_is]
    exact this
  match e : cp w, h1, ha with
  | c :: t, _, ha => exact ⟨c, t, rfl, ha⟩
theorem Part.name {w : Str} (h : isNm w = true) : Part (cp w) fun p => [(p, cp w)] := by
  obtain ⟨c, t, e, ha⟩ := nm_cps h
  rw [e]
  exact Part.word ha
theorem Part.kw (w : Str) (h : (match cp w with | [] => false | c :: t => (c :: t).all isLet) = true) : Part (cp w) fun p => [(p, cp w)] := by
  match e : cp w, h with
  | c :: t, h => exact Part.word fun x hx => List.all_eq_true.mp h x hx
def Tx (x : Str) : Prop := ∀ c ∈ cp x, isTx c = true
theorem Tx.app {a b : Str} (x : Tx a) (y : Tx b) : Tx (a ++ b) := fun c hc => by
  rw [cp_app] at hc
  exact (List.mem_append.mp hc).elim (x c) (y c)
theorem Tx.name {w : Str} (h : isNm w = true) : Tx w := fun c hc => by
  obtain ⟨d, t, e, ha⟩ := nm_cps h
  rw [e] at hc
  have := ha c hc
  unfold isLet at this
  simp at this
  unfold isTx isIn
  simp
  omega
theorem Tx.of {w : Str} (h : (cp w).all isTx = true) : Tx w := List.all_eq_true.mp h
/-- the page so far: what it brings in, what it has of its own -/
structure PgS (x : Str) (im : List Mk) (ds : List De) : Prop where
  ex : ∃ Ti Td, Closed (cp x) (Ti ++ Td) ∧ (∀ L', PIm im (Ti.map strT ++ L') L') ∧ (∀ L', PDs ds (Td.map strT ++ L') L') ∧ (ds = [] → Td = [])
  tx : Tx x
  asc : im.Pairwise fun a b => a.i < b.i
  lo : ∀ m ∈ im, m.i < x.length
  pl : ∀ d ∈ ds, PlainD d
  nm : ∀ d ∈ ds, d.m.n ≠ ""
theorem PgS.begin {x : Str} (h : Closed (cp x) []) (t : Tx x) : PgS x [] [] :=
  ⟨⟨[], [], h, fun _ => rfl, fun _ => rfl, fun _ => rfl⟩, t, .nil, (fun _ z => nomatch z), (fun _ z => nomatch z), (fun _ z => nomatch z)⟩
theorem cp_sp : cp (" " : Str) = [32] := by decide +kernel
theorem closed_put {x w : Str} {T : List (Nat × List Nat)} {U : Nat → List (Nat × List Nat)} (h : Closed (cp x) T) (p : Part (cp w) U) : Closed (cp (x ++ w ++ " ")) (T ++ U x.length) := by
  rw [cp_app, cp_app, cp_sp, ← cp_len]
  exact h.put p
theorem len_put (x w : Str) : (x ++ w ++ " ").length = x.length + w.length + 1 := by
  rw [len_app, len_app]
  rfl
theorem PgS.imp {x n : Str} {im : List Mk} (h : PgS x im []) (hn : isNm n = true) :
    PgS (x ++ "\x69mport" ++ " " ++ n ++ " ") (im ++ [⟨(x ++ "\x69mport" ++ " ").length, n⟩]) [] := by
  obtain ⟨Ti, Td, hc, hi, hd, hz⟩ := h.ex
  have z := hz rfl
  subst z
  rw [List.append_nil] at hc
  have c1 := closed_put hc (Part.kw "\x69mport" (by decide +kernel))
  have c2 := closed_put c1 (Part.name hn)
  refine ⟨⟨_, [], by rw [List.append_nil]; exact c2, fun L' => ?_, fun _ => rfl, fun _ => rfl⟩, ((((h.tx.app (.of (by decide +kernel))).app (.of (by decide +kernel))).app (.name hn)).app (.of (by decide +kernel))), ?_, ?_, (fun _ z => nomatch z), (fun _ z => nomatch z)⟩
  · rw [List.map_append, List.map_append, List.append_assoc, List.append_assoc]
    refine (hi _).snoc ⟨strT ((x ++ "\x69mport" ++ " ").length, cp n) :: L', ⟨x.length, ?_⟩, ?_⟩
    · show strT (x.length, cp "\x69mport") :: _ = _
      rw [strT_is rfl]
      rfl
    · refine ⟨?_, hn⟩
      show strT ((x ++ "\x69mport" ++ " ").length, cp n) :: L' = _
      rw [strT_is rfl]
  · refine List.pairwise_append.mpr ⟨h.asc, List.pairwise_singleton _ _, fun a ha b hb => ?_⟩
    rw [List.mem_singleton] at hb
    subst hb
    have := h.lo a ha
    show a.i < (x ++ "\x69mport" ++ " ").length
    rw [len_put]
    omega
  · intro m hm
    rw [len_put]
    rcases List.mem_append.mp hm with hm | hm
    · have := h.lo m hm
      rw [len_put]
      omega
    · rw [List.mem_singleton] at hm
      subst hm
      show (x ++ "\x69mport" ++ " ").length < _
      omega
theorem nm_ne {w : Str} (h : isNm w = true) : w ≠ "" := by
  rintro rfl
  revert h
  decide +kernel
def bodyT : Str := "{ n: 1 }"
def goodsT : Str := "(n: number) [ ]"
theorem dig1 : PDig 1 "1" := ⟨by
  rw [show cp ("1" : Str) = [49] by decide +kernel]
  intro c hc
  rw [List.mem_singleton] at hc
  subst hc
  decide, by decide +kernel, by decide +kernel, by decide +kernel, by decide +kernel, by decide +kernel⟩
theorem nN : isNm "n" = true := by decide +kernel
theorem PgS.tmp {x n : Str} {im : List Mk} {ds : List De} (h : PgS x im ds) (hn : isNm n = true) :
    ∃ d, PgS (x ++ "template" ++ " " ++ n ++ " " ++ bodyT ++ " ") im (ds ++ [d]) ∧ d.m = ⟨(x ++ "template" ++ " ").length, n⟩ := by
  obtain ⟨Ti, Td, hc, hi, hd, hz⟩ := h.ex
  have c1 := closed_put hc (Part.kw "template" (by decide +kernel))
  have c2 := closed_put c1 (Part.name hn)
  have c3 := closed_put c2 (w := bodyT) (by rw [show cp bodyT = [123, 32, 110, 58, 32, 49, 32, 125] by decide +kernel]; exact Part.body)
  generalize hb : (x ++ "template" ++ " " ++ n ++ " ").length = b at c3
  have ex : ∀ L' : List Tk, POw ⟨⟨(x ++ "template" ++ " ").length, n⟩, none, ⟨b, [⟨⟨b + 2, "n"⟩, .lit (b + 5) 1⟩]⟩⟩
      ((x.length, ("template" : Str)) :: ((x ++ "template" ++ " ").length, n) :: (b, ("{" : Str)) :: (b + 2, ("n" : Str)) :: (b + 3, (":" : Str)) :: (b + 5, ("1" : Str)) :: (b + 7, ("}" : Str)) :: L') L' := fun L' =>
    ⟨_, _, _, ⟨_, rfl⟩, ⟨rfl, hn⟩, ⟨⟨_, _, _, rfl, by decide +kernel⟩, rfl⟩, ⟨_, _, rfl, ⟨_, ⟨_, _, ⟨rfl, nN⟩, ⟨_, rfl⟩, "1", rfl, dig1, by decide +kernel, by decide +kernel, by decide +kernel, by decide +kernel, by decide +kernel, _, _, _, rfl, by decide +kernel⟩, rfl⟩, ⟨_, rfl⟩, (by exact (by decide : 1 ≤ 1000))⟩, fun z => nomatch z⟩
  refine ⟨.ow ⟨⟨(x ++ "template" ++ " ").length, n⟩, none, ⟨b, [⟨⟨b + 2, "n"⟩, .lit (b + 5) 1⟩]⟩⟩, ⟨⟨Ti, Td ++ ([(x.length, cp "template")] ++ [((x ++ "template" ++ " ").length, cp n)] ++ [(b, [123]), (b + 2, [110]), (b + 3, [58]), (b + 5, [49]), (b + 7, [125])]), ?_, hi, fun L' => ?_, fun z => ?_⟩, ?_, h.asc, fun m hm => ?_, fun d hd => ?_, fun d hd => ?_⟩, rfl⟩
  · rw [← List.append_assoc, ← List.append_assoc, ← List.append_assoc]
    exact c3
  · rw [List.map_append, List.append_assoc]
    refine (hd _).snoc ?_
    show POw _ (strT _ :: strT _ :: strT _ :: strT _ :: strT _ :: strT _ :: strT _ :: L') L'
    rw [strT_is rfl, strT_is rfl, strT_is (s := "{") (by decide +kernel), strT_is (s := "n") (by decide +kernel), strT_is (s := ":") (by decide +kernel), strT_is (s := "1") (by decide +kernel), strT_is (s := "}") (by decide +kernel)]
    exact ex L'
  · cases ds <;> cases z
  · exact (((((h.tx.app (.of (by decide +kernel))).app (.of (by decide +kernel))).app (.name hn)).app (.of (by decide +kernel))).app (.of (by decide +kernel))).app (.of (by decide +kernel))
  · have := h.lo m hm
    rw [len_put, len_put, len_put]
    omega
  · rcases List.mem_append.mp hd with hd | hd
    · exact h.pl d hd
    · rw [List.mem_singleton] at hd
      subst hd
      exact ⟨rfl, _, _, _, rfl⟩
  · rcases List.mem_append.mp hd with hd | hd
    · exact h.nm d hd
    · rw [List.mem_singleton] at hd
      subst hd
      exact nm_ne hn
theorem PgS.lst {x n : Str} {im : List Mk} {ds : List De} (h : PgS x im ds) (hn : isNm n = true) :
    ∃ d, PgS (x ++ "list" ++ " " ++ n ++ " " ++ goodsT ++ " ") im (ds ++ [d]) ∧ d.m = ⟨(x ++ "list" ++ " ").length, n⟩ := by
  obtain ⟨Ti, Td, hc, hi, hd, hz⟩ := h.ex
  have c1 := closed_put hc (Part.kw "list" (by decide +kernel))
  have c2 := closed_put c1 (Part.name hn)
  have c3 := closed_put c2 (w := goodsT) (by rw [show cp goodsT = [40, 110, 58, 32, 110, 117, 109, 98, 101, 114, 41, 32, 91, 32, 93] by decide +kernel]; exact Part.goods)
  generalize hb : (x ++ "list" ++ " " ++ n ++ " ").length = b at c3
  have ex : ∀ L' : List Tk, PSk ⟨⟨(x ++ "list" ++ " ").length, n⟩, [⟨⟨b + 1, "n"⟩, "number"⟩]⟩
      ((x.length, ("list" : Str)) :: ((x ++ "list" ++ " ").length, n) :: (b, ("(" : Str)) :: (b + 1, ("n" : Str)) :: (b + 2, (":" : Str)) :: (b + 4, ("number" : Str)) :: (b + 10, (")" : Str)) :: (b + 12, ("[" : Str)) :: (b + 14, ("]" : Str)) :: L') L' := fun L' =>
    ⟨_, _, _, _, ⟨_, rfl⟩, ⟨rfl, hn⟩, ⟨_, _, _, _, _, rfl, ⟨_, rfl⟩, ⟨_, _, _, ⟨rfl, nN⟩, ⟨_, rfl⟩, .inl rfl, rfl⟩, rfl, ⟨_, rfl⟩, (by exact (by decide : 1 ≤ 1000))⟩, ⟨_, rfl⟩, ⟨_, rfl⟩⟩
  refine ⟨.sk ⟨⟨(x ++ "list" ++ " ").length, n⟩, [⟨⟨b + 1, "n"⟩, "number"⟩]⟩, ⟨⟨Ti, Td ++ ([(x.length, cp "list")] ++ [((x ++ "list" ++ " ").length, cp n)] ++ [(b, [40]), (b + 1, [110]), (b + 2, [58]), (b + 4, [110, 117, 109, 98, 101, 114]), (b + 10, [41]), (b + 12, [91]), (b + 14, [93])]), ?_, hi, fun L' => ?_, fun z => ?_⟩, ?_, h.asc, fun m hm => ?_, fun d hd => ?_, fun d hd => ?_⟩, rfl⟩
  · rw [← List.append_assoc, ← List.append_assoc, ← List.append_assoc]
    exact c3
  · rw [List.map_append, List.append_assoc]
    refine (hd _).snoc ?_
    show PSk _ (strT _ :: strT _ :: strT _ :: strT _ :: strT _ :: strT _ :: strT _ :: strT _ :: strT _ :: L') L'
    rw [strT_is rfl, strT_is rfl, strT_is (s := "(") (by decide +kernel), strT_is (s := "n") (by decide +kernel), strT_is (s := ":") (by decide +kernel), strT_is (s := "number") (by decide +kernel), strT_is (s := ")") (by decide +kernel), strT_is (s := "[") (by decide +kernel), strT_is (s := "]") (by decide +kernel)]
    exact ex L'
  · cases ds <;> cases z
  · exact (((((h.tx.app (.of (by decide +kernel))).app (.of (by decide +kernel))).app (.name hn)).app (.of (by decide +kernel))).app (.of (by decide +kernel))).app (.of (by decide +kernel))
  · have := h.lo m hm
    rw [len_put, len_put, len_put]
    omega
  · rcases List.mem_append.mp hd with hd | hd
    · exact h.pl d hd
    · rw [List.mem_singleton] at hd
      subst hd
      exact ⟨_, rfl⟩
  · rcases List.mem_append.mp hd with hd | hd
    · exact h.nm d hd
    · rw [List.mem_singleton] at hd
      subst hd
      exact nm_ne hn
/-- the page is a file's -/
theorem PgS.page {x f : Str} {im : List Mk} {ds : List De} (h : PgS x im ds) (hx : x.length ≤ 100000) (l1 : im.length ≤ 20) (l2 : ds.length ≤ 20) : Page (f, x) ⟨f, im, ds⟩ := by
  obtain ⟨Ti, Td, hc, hi, hd, hz⟩ := h.ex
  obtain ⟨a, b⟩ := hc.end_
  have most : (cp x).length ≤ most := by
    rw [cp_len]
    exact Nat.le_trans hx (by decide)
  refine ⟨rfl, most, b, [((cp x).length, ("" : Str))], _, (cp x).length, ?_, hd _, rfl, by show im.length ≤ 1000; omega, by show ds.length ≤ 1000; omega⟩
  show PIm im (toksE (cp x)) _
  unfold toksE toks
  rw [a, List.map_append, List.append_assoc]
  exact hi _
theorem PgS.file {x f : Str} {im : List Mk} {ds : List De} (h : PgS x im ds) (hx : x.length ≤ 100000) (hf : isNm f = true) : FileOk (f, x) :=
  ⟨hf, Nat.le_trans (by rw [cp_len]; exact isNm_lt hf) (by decide), Nat.le_trans (by rw [cp_len]; exact hx) (by decide), h.tx⟩
end V5

set_option maxHeartbeats 2000000
/-! _law_due: its terms. -/
namespace V5
open PySem PySem.Spec PyProof.Rows L2 K2
theorem inV_strs (x : Str) : ∀ l : List Str, inV (.str x) (l.map V.str) = decide (x ∈ l)
  | [] => by simp [inV]
  | y :: r => by
    have ih := inV_strs x r
    unfold inV at ih ⊢
    rw [List.map_cons, List.any_cons, ih]
    have e : eqV (.str y) (.str x) = decide (x = y) := by
      by_cases h : y = x
      · subst h
        simp [eqV]
      · rw [decide_eq_false (fun z => h z.symm)]
        simp [eqV, h]
    rw [e]
    by_cases h : x = y
    · simp [h]
    · simp [h]
theorem strs_flat (l : List Str) : (l.map V.str).all flatV = true := by
  rw [List.all_eq_true]
  intro v hv
  obtain ⟨x, _, rfl⟩ := List.mem_map.mp hv
  rfl
abbrev duN : List Str := ["_law_found", "_law_names", "_law_name", "_law_ahead", "_law_own", "_law_known", "_law_at", "_law_other", "_law_owns", "_law_word", "_law_wrong"]
/-- pairs (place, name) -/
def RPr (H : Hp) (v : V) (m : Mk) : Prop := ∃ T, v = .ref T ∧ H T = some (.tup [.int (m.i : Nat), .str m.n])
def RFd (H : Hp) (v : V) (d : Fd) : Prop := ∃ T la lo xa xo, v = .ref T ∧ H T = some (.tup [.str d.n, .ref la, .ref lo]) ∧ H la = some (.lst xa) ∧ A2 (RPr H) xa d.a ∧ H lo = some (.lst xo) ∧ A2 (RPr H) xo d.o
def spDue : Sp := fun vs H Q _ => ∃ (l : Addr) (xs : List V) (ds : List Fd), vs = [.ref l] ∧ H l = some (.lst xs) ∧ A2 (RFd H) xs ds ∧ ds.length ≤ 6 ∧ (∀ d ∈ ds, d.a.length ≤ 20 ∧ d.o.length ≤ 20) ∧ (ds.map (·.n)).Nodup ∧
  (∀ f n, firstImp (ds.map (·.n)) ds = some (f, n) → ∀ H' t, Same H H' → H' t = some (.tup [.str iw, .str f, .int (n : Nat)]) → Q (.ref t) H') ∧
  (firstImp (ds.map (·.n)) ds = none → ∀ f n, firstTw ds ds = some (f, n) → ∀ H' t, Same H H' → H' t = some (.tup [.str "twice", .str f, .int (n : Nat)]) → Q (.ref t) H') ∧
  (firstImp (ds.map (·.n)) ds = none → firstTw ds ds = none → ∀ H', Same H H' → Q .non H')
section
variable {P : Program} {w : World} {K : PySem.W.Frag} {mg : Str → Option Value} {base : Heap}
theorem ok_due (E : Env K mg) : FnOk P w K mg base CX0 1 (f__law_due K) (fd__law_due K) ["_law_found"] spDue := by
  refine E.F__law_due.ok sc__law_due (fun vs H Q E h => ?_) (fun cdv A outer s H vs Q E1 hr h => ?_)
  · obtain ⟨l, xs, ds, rfl, _⟩ := h
    rfl
  · obtain ⟨l, xs, ds, rfl, hl, ra, l6, few, ndn, q1, q2, q3⟩ := h
    have nd := sc__law_due.nd
    refine ⟨_, pss_cons (ps_setLc (i := 1) (own := [("_law_name", 2), ("_law_ahead", 3), ("_law_own", 4)]) (g := gTup K 3 (gCons (gName 2) (gCons (gName 3) (gCons (gName 4) gNil)))) rfl nd rfl rfl (sw_true rfl rfl rfl (by decide +kernel)) (pi_list (pv 0)) (blkOk_by (N := duN) (sc := defScope s__law_due) (by decide +kernel))
          (fun _ _ _ _ _ => pg_tup rfl (pgs_cons (pg_name (i := 2) nd rfl (Or.inl rfl)) (pgs_cons (pg_name (i := 3) nd rfl (Or.inl rfl)) (pgs_cons (pg_name (i := 4) nd rfl (Or.inl rfl)) pgs_nil)))) (fun _ _ _ _ _ => pts_nil) (fun _ _ _ _ _ => pv 2))
      <| pss_cons (ps_for PassesOwn.never rfl (pi_list (pv 0)) (pg_tup rfl (pgs_cons (pg_name (i := 2) nd rfl (.inl rfl)) (pgs_cons (pg_name (i := 3) nd rfl (.inl rfl)) (pgs_cons (pg_name (i := 4) nd rfl (.inl rfl)) pgs_nil))))
          (pss_cons (ps_set (i := 5) nd rfl (.inr rfl) (pe_lst (pa_cons (pv 2) pa_nil)))
            <| pss_one (ps_for PassesOwn.never rfl (pi_list (pv 3)) (pg_tup rfl (pgs_cons (pg_name (i := 6) nd rfl (.inl rfl)) (pgs_cons (pg_name (i := 7) nd rfl (.inl rfl)) pgs_nil)))
                (pss_cons (ps_if (PW.pt (pw_or (pt_cmpR op_in_seq (pv 7) (pv 5) (by with_unfolding_all rfl)) (pw_or1 (pt_cmpR op_notIn_seq (pv 7) (pv 1) (by with_unfolding_all rfl))))) (pss_one (ps_ret (pe_tup (pa_cons pe_str (pa_cons (pv 2) (pa_cons (pv 6) pa_nil)))))) pss_nil)
                  <| pss_one (ps_expr (pe_bm PySem.F.plainAttrs_list PySem.F.slot_list_append PySem.F.type_list_append mt_append (pv 5) (pa_cons (pv 7) pa_nil)))))))
      <| pss_cons (ps_set (i := 8) nd rfl (.inl rfl) (pe_callTy (call_dictP rfl) (by rfl) E.u_dict (by decide +kernel) (pa_cons
          (pe_lc (own := [("_law_name", 2), ("_law_ahead", 3), ("_law_own", 4)]) (g := gTup K 3 (gCons (gName 2) (gCons (gName 3) (gCons (gName 4) gNil)))) (tt := tYes) rfl nd (pi_list (pv 0)) (blkOk_by (N := duN) (sc := defScope s__law_due) (by decide +kernel))
            (fun _ _ _ _ _ => pg_tup rfl (pgs_cons (pg_name (i := 2) nd rfl (Or.inl rfl)) (pgs_cons (pg_name (i := 3) nd rfl (Or.inl rfl)) (pgs_cons (pg_name (i := 4) nd rfl (Or.inl rfl)) pgs_nil)))) (fun _ _ _ _ _ => pts_nil)
            (fun s1 H1 C1 cl1 fp1 => show PE _ _ (tTup (tCons (tVar 2) (tCons (tLc (iList K (tVar 4)) (gTup K 2 (gCons (gName 6) (gCons (gName 9) gNil))) tYes (tVar 9) [6, 9]) tNil))) from by
              refine pe_tup (pa_cons (pv 2) (pa_cons ?_ pa_nil))
              exact pe_lc (own := [("_law_at", 6), ("_law_word", 9)]) (g := gTup K 2 (gCons (gName 6) (gCons (gName 9) gNil))) (tt := tYes) rfl nd (pi_list (pv 4)) (blkOk_by (N := duN) (by with_unfolding_all rfl))
                (fun _ _ _ _ _ => pg_tup rfl (pgs_cons (pg_name (i := 6) nd rfl (Or.inl rfl)) (pgs_cons (pg_name (i := 9) nd rfl (Or.inl rfl)) pgs_nil))) (fun _ _ _ _ _ => pts_nil) (fun _ _ _ _ _ => pv 9))) pa_nil)))
      <| pss_cons (ps_for PassesOwn.never rfl (pi_list (pv 0)) (pg_tup rfl (pgs_cons (pg_name (i := 2) nd rfl (.inl rfl)) (pgs_cons (pg_name (i := 3) nd rfl (.inl rfl)) (pgs_cons (pg_name (i := 4) nd rfl (.inl rfl)) pgs_nil))))
          (pss_cons (ps_asg (pe_tup (pa_cons (pe_lst pa_nil) (pa_cons (pe_lst pa_nil) pa_nil))) (pg_tup rfl (pgs_cons (pg_name (i := 10) nd rfl (.inl rfl)) (pgs_cons (pg_name (i := 5) nd rfl (.inr rfl)) pgs_nil))))
            <| pss_cons (ps_for PassesOwn.never rfl (pi_list (pv 4)) (pg_tup rfl (pgs_cons (pg_name (i := 6) nd rfl (.inl rfl)) (pgs_cons (pg_name (i := 9) nd rfl (.inl rfl)) pgs_nil)))
                (pss_cons (ps_expr (pe_bm PySem.F.plainAttrs_list PySem.F.slot_list_extend PySem.F.type_list_extend mt_extend (pv 10) (pa_cons (pe_ifExp (pt_cmpR op_in_seq (pv 9) (pv 5) (by with_unfolding_all rfl)) (pe_lst (pa_cons (pv 6) pa_nil)) (pe_lst pa_nil)) pa_nil)))
                  <| pss_one (ps_expr (pe_bm PySem.F.plainAttrs_list PySem.F.slot_list_append PySem.F.type_list_append mt_append (pv 5) (pa_cons (pv 9) pa_nil)))))
            <| pss_cons (ps_for PassesOwn.never rfl (pi_list (pv 3)) (pg_tup rfl (pgs_cons (pg_name (i := 6) nd rfl (.inl rfl)) (pgs_cons (pg_name (i := 7) nd rfl (.inl rfl)) pgs_nil)))
                (pss_cons (ps_expr (pe_bm PySem.F.plainAttrs_list PySem.F.slot_list_extend PySem.F.type_list_extend mt_extend (pv 10) (pa_cons (pe_ifExp (pt_val (pe_callB (cr_any rfl) (by rfl) E.u_any (by decide +kernel) (pa_cons
                    (pe_lc (own := [("_law_word", 9)]) (g := gName 9) (tt := tYes) rfl nd (pi_list (show PE _ _ (tDGet (tVar 8) (tVar 7)) from pe_dget (hu_of hr) (pv 8) (pv 7) (fun _ _ => rfl))) (blkOk_by (N := duN) (sc := defScope s__law_due) (by decide +kernel))
                      (fun _ _ _ _ _ => pg_name (i := 9) nd rfl (Or.inl rfl)) (fun _ _ _ _ _ => pts_nil) (fun _ _ _ _ _ => pe_cmpR (r := rIn K false) op_in_seq (show PE _ _ (tVar 9) from pv 9) (show PE _ _ (tVar 5) from pv 5) (by with_unfolding_all rfl))) pa_nil))) (pe_lst (pa_cons (pv 6) pa_nil)) (pe_lst pa_nil)) pa_nil)))
                  <| pss_one (ps_set (i := 5) nd rfl (.inr rfl) (pe_op op_cat (pv 5) (pe_dget (hu_of hr) (pv 8) (pv 7) (fun _ _ => rfl))))))
            <| pss_one (ps_if (pt_cmpR (op_neD hr.units) (pv 10) (pe_lst pa_nil) (nomark _)) (pss_one (ps_ret (pe_tup (pa_cons pe_str (pa_cons (pv 2) (pa_cons (pe_callB (cr_min rfl) (by rfl) E.u_min (by decide +kernel) (pa_cons (pv 10) pa_nil)) pa_nil)))))) pss_nil)))
      <| pss_one (ps_ret pe_non), ?_⟩
    have lx : xs.length = ds.length := ra.len
    refine ⟨_, rfl, l, rfl, ⟨_, SqL.of hl⟩, fun N hN => ?_⟩
    refine lc_it (walk_list (K := K) (a := l) (xs := xs)) (fun i G => G = upd H N (.lst (((ds.take i).map (·.n)).map V.str))) rfl (fun i G _ e => by rw [e]; exact SqL.of (same_new hN _ _ hl)) ?_ ?_
    · rintro i v G G' hi rfl ⟨rfl, hiv⟩
      obtain ⟨d, hd, T, la, lo, xa, xo, rfl, hT, _⟩ := ra.getL hiv
      have il : i < ds.length := (List.getElem?_eq_some_iff.mp hd).1
      refine ⟨T, _, rfl, SqT.of (same_new hN _ _ hT), rfl, ?_⟩
      refine ⟨_, _, rfl, _, _, rfl, _, _, rfl, rfl, rfl, _, rfl, _, upd_same, ?_, ?_⟩
      · rw [List.length_map, List.length_map, List.length_take]
        exact small1000 (by omega)
      · rw [upd_upd, List.take_add_one, hd, List.map_append, List.map_append]
        rfl
    rintro G rfl
    rw [lx, List.take_length]
    have sm1 : Same H (upd H N (.lst ((ds.map (·.n)).map V.str))) := same_new hN
    have n1 : (upd H N (.lst ((ds.map (·.n)).map V.str))) N = some (.lst ((ds.map (·.n)).map V.str)) := upd_same
    generalize upd H N (.lst ((ds.map (·.n)).map V.str)) = H1 at sm1 n1 ⊢
    refine ⟨_, rfl, l, rfl, ⟨_, SqL.of (sm1 _ _ hl)⟩, ?_⟩
    refine for_it (walk_list (K := K) (a := l) (xs := xs)) (fun i σ G => ∃ x2 x3 x4 x5 x6 x7 : Option V, σ = [some (.ref l), some (.ref N), x2, x3, x4, x5, x6, x7, none, none, none] ∧ Same H1 G ∧ firstImp (ds.map (·.n)) ds = firstImp (ds.map (·.n)) (ds.drop i)) ⟨none, none, none, none, none, none, rfl, fun _ _ e => e, rfl⟩
      (fun i σ G _ ⟨_, _, _, _, _, _, _, s, _⟩ => SqL.of (s _ _ (sm1 _ _ hl))) ?_ ?_
    · rintro i v σ G G' hi ⟨x2, x3, x4, x5, x6, x7, rfl, sm, hd⟩ ⟨rfl, hv⟩
      obtain ⟨d, hdi, T, la, lo, xa, xo, rfl, hT, hla, ra2, hlo, ro2⟩ := ra.getL hv
      obtain ⟨ilt, ei⟩ := List.getElem?_eq_some_iff.mp hdi
      rw [List.drop_eq_getElem_cons ilt, ei] at hd
      have few2 := few d (List.mem_of_getElem? hdi)
      refine ⟨T, _, rfl, SqT.of (sm _ _ (sm1 _ _ hT)), rfl, ?_⟩
      refine ⟨_, _, rfl, _, _, rfl, _, _, rfl, rfl, ?_⟩
      refine ⟨_, rfl, by show 1 ≤ sizeLine; decide, fun Kn hKn => ?_⟩
      have smK : Same H1 (upd G' Kn (.lst [.str d.n])) := fun b o e => same_new hKn _ _ (sm b o e)
      have k1 : (upd G' Kn (.lst [.str d.n])) Kn = some (.lst [.str d.n]) := upd_same
      have nKn : H1 Kn = none := fresh_of sm hKn
      refine ⟨_, rfl, la, rfl, ⟨_, SqL.of (smK _ _ (sm1 _ _ hla))⟩, ?_⟩
      refine for_it (walk_list (K := K) (a := la) (xs := xa)) (fun j σ G => ∃ (y6 y7 : Option V) (kn : List Str), σ = [some (.ref l), some (.ref N), some (.str d.n), some (.ref la), some (.ref lo), some (.ref Kn), y6, y7, none, none, none] ∧ Same H1 G ∧ G Kn = some (.lst (kn.map V.str)) ∧ kn.length ≤ j + 1 ∧ impL (ds.map (·.n)) [d.n] d.a = impL (ds.map (·.n)) kn (d.a.drop j))
        ⟨x6, x7, [d.n], rfl, smK, k1, Nat.le_refl _, rfl⟩ (fun j σ G _ ⟨_, _, _, _, s, _⟩ => SqL.of (s _ _ (sm1 _ _ hla))) ?_ ?_
      · rintro j v σ G2 G3 hj ⟨y6, y7, kn, rfl, s2, gK, lk, hk⟩ ⟨rfl, hv2⟩
        obtain ⟨m, hm, Z, rfl, hZ⟩ := ra2.getL hv2
        obtain ⟨jlt, ej⟩ := List.getElem?_eq_some_iff.mp hm
        rw [List.drop_eq_getElem_cons jlt, ej] at hk
        refine ⟨Z, _, rfl, SqT.of (s2 _ _ (sm1 _ _ hZ)), rfl, ?_⟩
        refine ⟨_, _, rfl, _, _, rfl, rfl, ?_⟩
        refine ⟨_, rfl, _, rfl, Kn, _, rfl, .inl (SqL.of gK), rfl, strs_flat kn, _, rfl, ?_⟩
        rw [show (if false = true then !inV (V.str m.n) (kn.map V.str) else inV (V.str m.n) (kn.map V.str)) = decide (m.n ∈ kn) from inV_strs _ _]
        have s02 : Same H _ := fun b o e => s2 b o (sm1 b o e)
        have hit : (m.n ∈ kn ∨ m.n ∉ ds.map (fun x : Fd => x.n)) → firstImp (ds.map (fun x : Fd => x.n)) ds = some (d.n, m.i) := fun bad => by
          have e : ∀ (q : List Fd), firstImp (ds.map (fun x : Fd => x.n)) (d :: q) = (match impL (ds.map (fun x : Fd => x.n)) [d.n] d.a with | some k => some (d.n, k) | none => firstImp (ds.map (fun x : Fd => x.n)) q) := fun _ => rfl
          rw [hd, e, hk, show impL (ds.map (fun x : Fd => x.n)) kn (m :: d.a.drop (j + 1)) = some m.i from if_pos bad]
        by_cases h1 : m.n ∈ kn
        · rw [decide_eq_true h1]
          refine iteT (iteT ⟨_, rfl, _, rfl, by show 3 ≤ sizeLine; decide, fun R hR => ?_⟩)
          exact q1 d.n m.i (hit (.inl h1)) _ R (fun b o e => same_new hR _ _ (s02 b o e)) upd_same
        · rw [decide_eq_false h1]
          refine iteF ⟨_, rfl, _, rfl, N, _, rfl, .inl (SqL.of (s2 _ _ n1)), rfl, strs_flat _, _, rfl, ?_⟩
          rw [show (if true = true then !inV (V.str m.n) ((ds.map (fun x : Fd => x.n)).map V.str) else inV (V.str m.n) ((ds.map (fun x : Fd => x.n)).map V.str)) = !decide (m.n ∈ ds.map (fun x : Fd => x.n)) from congrArg not (inV_strs _ _)]
          by_cases h2 : m.n ∈ ds.map (fun x : Fd => x.n)
          · rw [decide_eq_true h2]
            refine iteF ?_
            refine ⟨_, rfl, .inl ⟨rfl, _, SqL.of gK⟩, _, rfl, Kn, _, _, rfl, rfl, gK, ?_, ?_⟩
            · rw [List.length_map]
              have := few2.1
              have := ra2.len
              exact small1000 (by have : j < xa.length := hj; omega)
            · refine ⟨_, _, kn ++ [m.n], rfl, fun b o e => ?_, ?_, ?_, ?_⟩
              · rw [upd_ne (ne_of_none e nKn)]
                exact s2 b o e
              · rw [upd_same, List.map_append]
                rfl
              · rw [List.length_append, List.length_cons, List.length_nil]
                omega
              · rw [hk]
                exact if_neg (fun z => z.elim h1 (fun y => y h2))
          · rw [decide_eq_false h2]
            refine iteT ⟨_, rfl, _, rfl, by show 3 ≤ sizeLine; decide, fun R hR => ?_⟩
            exact q1 d.n m.i (hit (.inr h2)) _ R (fun b o e => same_new hR _ _ (s02 b o e)) upd_same
      · rintro σ G2 ⟨y6, y7, kn, rfl, s2, gK, lk, hk⟩
        refine ⟨_, _, _, _, _, _, rfl, s2, hd.trans ?_⟩
        rw [ra2.len, List.drop_length] at hk
        have e : ∀ (q : List Fd), firstImp (ds.map (fun x : Fd => x.n)) (d :: q) = (match impL (ds.map (fun x : Fd => x.n)) [d.n] d.a with | some k => some (d.n, k) | none => firstImp (ds.map (fun x : Fd => x.n)) q) := fun _ => rfl
        rw [e, hk]
        rfl
    · rintro σ G ⟨x2, x3, x4, x5, x6, x7, rfl, sm2, hd⟩
      have i0 : firstImp (ds.map (·.n)) ds = none := by
        rw [hd, lx, List.drop_length]
        rfl
      have imn := firstImp_names _ _ i0
      have s02 : Same H G := fun b o e => sm2 b o (sm1 b o e)
      clear hd
      refine ⟨_, rfl, l, rfl, ⟨_, SqL.of (s02 _ _ hl)⟩, fun D hD => ?_⟩
      refine lc_it (walk_list (K := K) (a := l) (xs := xs)) (fun i G2 => ∃ (ps : List Addr) (kvs : List (Key × V)), G2 D = some (.lst (ps.map V.ref)) ∧ A2 (RKv G2) ps kvs ∧ A2 (ROwn D G2) kvs (ds.take i) ∧ Same G G2 ∧ ∀ p ∈ ps, p ≠ D) ⟨[], [], upd_same, .nil, .nil, same_new hD, fun _ z => nomatch z⟩ (fun i G2 _ ⟨_, _, _, _, _, s, _⟩ => SqL.of (s _ _ (s02 _ _ hl))) ?_ ?_
      · rintro i v G2 G3 hi ⟨ps, kvs, gD, rk, ro, s2, npD⟩ ⟨rfl, hv⟩
        obtain ⟨d, hdi, T, la, lo, xa, xo, rfl, hT, hla, ra2, hlo, ro2⟩ := ra.getL hv
        have s03 : Same H G3 := fun b o e => s2 b o (s02 b o e)
        refine ⟨T, _, rfl, SqT.of (s03 _ _ hT), rfl, ?_⟩
        refine ⟨_, _, rfl, _, _, rfl, _, _, rfl, rfl, rfl, ?_⟩
        refine ⟨_, rfl, _, rfl, lo, rfl, ⟨_, SqL.of (s03 _ _ hlo)⟩, fun W hW => ?_⟩
        have lo2 : xo.length = d.o.length := ro2.len
        have few2 := few d (List.mem_of_getElem? hdi)
        refine lc_it (walk_list (K := K) (a := lo) (xs := xo)) (fun j G4 => G4 = upd G3 W (.lst (((d.o.take j).map (·.n)).map V.str))) rfl (fun j G4 _ e => by rw [e]; exact SqL.of (same_new hW _ _ (s03 _ _ hlo))) ?_ ?_
        · rintro j v2 G4 G5 hj rfl ⟨rfl, hv2⟩
          obtain ⟨m, hm, Z, rfl, hZ⟩ := ro2.getL hv2
          refine ⟨Z, _, rfl, SqT.of (same_new hW _ _ (s03 _ _ hZ)), rfl, ?_⟩
          refine ⟨_, _, rfl, _, _, rfl, rfl, rfl, _, rfl, _, upd_same, ?_, ?_⟩
          · rw [List.length_map, List.length_map, List.length_take]
            exact small1000 (by omega)
          · rw [upd_upd, List.take_add_one, hm, List.map_append, List.map_append]
            rfl
        rintro G4 rfl
        rw [lo2, List.take_length]
        have s34 : Same G3 (upd G3 W (.lst ((d.o.map (·.n)).map V.str))) := same_new hW
        have w4 : (upd G3 W (.lst ((d.o.map (·.n)).map V.str))) W = some (.lst ((d.o.map (·.n)).map V.str)) := upd_same
        have nWD : W ≠ D := (ne_of_none gD hW).symm
        generalize upd G3 W (.lst ((d.o.map (·.n)).map V.str)) = G4 at s34 w4 ⊢
        refine ⟨by show 2 ≤ sizeLine; decide, fun Pt hP => ?_⟩
        have s45 : Same G4 (upd G4 Pt (.tup [.str d.n, .ref W])) := same_new hP
        have p5 : (upd G4 Pt (.tup [.str d.n, .ref W])) Pt = some (.tup [.str d.n, .ref W]) := upd_same
        have nPD : Pt ≠ D := (ne_of_none (s34 _ _ gD) hP).symm
        generalize upd G4 Pt (.tup [.str d.n, .ref W]) = G5 at s45 p5 ⊢
        have s35 : Same G3 G5 := fun b o e => s45 _ _ (s34 _ _ e)
        have iv : i < xs.length := hi
        refine ⟨_, s35 _ _ gD, ?_, ps ++ [Pt], kvs ++ [(.inr d.n, .ref W)], ?_, ?_, ?_, ?_, ?_⟩
        · rw [List.length_map, rk.len, ro.len, List.length_take]
          exact small1000 (by omega)
        · rw [upd_same, List.map_append]
          rfl
        · refine A2.snoc (rk.imp2 fun p kv hp e => ?_) ?_
          · show upd G5 D _ p = _
            rw [upd_ne (npD p hp)]
            exact s35 _ _ e
          · show upd G5 D _ Pt = _
            rw [upd_ne nPD]
            exact p5
        · rw [List.take_add_one, hdi]
          refine A2.snoc (ro.imp fun kv d ⟨e1, V, e2, n, h⟩ => ⟨e1, V, e2, n, by rw [upd_ne n]; exact s35 _ _ h⟩) ⟨rfl, W, rfl, nWD, ?_⟩
          rw [upd_ne nWD]
          exact s45 _ _ w4
        · intro b o e
          rw [upd_ne (ne_of_none e hD)]
          exact s35 _ _ (s2 _ _ e)
        · intro p hp
          rcases List.mem_append.mp hp with hp | hp
          · exact npD p hp
          · rw [List.mem_singleton] at hp
            subst hp
            exact nPD
      rintro G2 ⟨ps, kvs, gD, rk, ro, s2, npD⟩
      rw [lx, List.take_length] at ro
      refine ⟨D, ps, kvs, rfl, SqL.of gD, (rk.imp fun _ _ e => SqT.of e).paired, fun M hM => ?_⟩
      have own : ∀ n ∈ ds.map (·.n), ∃ W, valV (mergeK [] kvs) (.inr n) = some (.ref W) ∧ (upd G2 M (.dK (mergeK [] kvs))) W = some (.lst ((ownsOf ds n).map V.str)) := fun n hn => by
        obtain ⟨W, e1, e2⟩ := ROwn.val ro ndn hn
        exact ⟨W, e1, same_new hM _ _ e2⟩
      have s3 : Same H (upd G2 M (.dK (mergeK [] kvs))) := fun b o e => same_new hM _ _ (s2 _ _ (s02 _ _ e))
      have m3 : (upd G2 M (.dK (mergeK [] kvs))) M = some (.dK (mergeK [] kvs)) := upd_same
      generalize upd G2 M (.dK (mergeK [] kvs)) = H3 at own s3 m3 ⊢
      generalize mergeK [] kvs = kvm at own m3
      refine ⟨_, rfl, l, rfl, ⟨_, SqL.of (s3 _ _ hl)⟩, ?_⟩
      refine for_it (walk_list (K := K) (a := l) (xs := xs)) (fun i σ G => ∃ x2 x3 x4 x5 x6 x7 x9 x10 : Option V, σ = [some (.ref l), some (.ref N), x2, x3, x4, x5, x6, x7, some (.ref M), x9, x10] ∧ Same H3 G ∧ firstTw ds ds = firstTw ds (ds.drop i))
        ⟨_, _, _, _, _, _, _, _, rfl, fun _ _ e => e, rfl⟩ (fun i σ G _ ⟨_, _, _, _, _, _, _, _, _, s, _⟩ => SqL.of (s _ _ (s3 _ _ hl))) ?_ ?_
      · rintro i v σ G G' hi ⟨x2, x3, x4, x5, x6, x7, x9, x10, rfl, sm, hd⟩ ⟨rfl, hv⟩
        obtain ⟨d, hdi, T, la, lo, xa, xo, rfl, hT, hla, ra2, hlo, ro2⟩ := ra.getL hv
        obtain ⟨ilt, ei⟩ := List.getElem?_eq_some_iff.mp hdi
        rw [List.drop_eq_getElem_cons ilt, ei] at hd
        have dm := List.mem_of_getElem? hdi
        have few2 := few d dm
        have la2 : xa.length = d.a.length := ra2.len
        have lo2 : xo.length = d.o.length := ro2.len
        refine ⟨T, _, rfl, SqT.of (sm _ _ (s3 _ _ hT)), rfl, ?_⟩
        refine ⟨_, _, rfl, _, _, rfl, _, _, rfl, rfl, ?_⟩
        refine ⟨by decide, fun wa hwa => ⟨by decide, fun ka hka => ⟨by show 2 ≤ _; decide, fun t0 h0 => ⟨t0, _, rfl, SqT.of upd_same, rfl, _, _, rfl, _, _, rfl, rfl, ?_⟩⟩⟩⟩
        have nwk : wa ≠ ka := ne_of_none upd_same hka
        have ntw : t0 ≠ wa := (ne_of_none (same_new hka _ _ upd_same) h0).symm
        have ntk : t0 ≠ ka := (ne_of_none upd_same h0).symm
        have wN : H3 wa = none := new_of sm hwa
        have kN : H3 ka = none := new_of sm (new_of (same_new hwa) hka)
        have s1 : Same H3 (upd (upd (upd G' wa (.lst [])) ka (.lst [])) t0 (.tup [.ref wa, .ref ka])) := fun b o e => same_new h0 _ _ (same_new hka _ _ (same_new hwa _ _ (sm _ _ e)))
        have w1 : (upd (upd (upd G' wa (.lst [])) ka (.lst [])) t0 (.tup [.ref wa, .ref ka])) wa = some (.lst (nms [])) := by
          rw [upd_ne ntw.symm, upd_ne nwk, upd_same]
          rfl
        have k1 : (upd (upd (upd G' wa (.lst [])) ka (.lst [])) t0 (.tup [.ref wa, .ref ka])) ka = some (.lst []) := by rw [upd_ne ntk.symm, upd_same]
        generalize upd (upd (upd G' wa (.lst [])) ka (.lst [])) t0 (.tup [.ref wa, .ref ka]) = G1 at s1 w1 k1 ⊢
        refine ⟨_, rfl, lo, rfl, ⟨_, SqL.of (s1 _ _ (s3 _ _ hlo))⟩, ?_⟩
        refine for_it (walk_list (K := K) (a := lo) (xs := xo)) (fun j σ G => ∃ (y6 y9 : Option V) (acc : List Nat), σ = [some (.ref l), some (.ref N), some (.str d.n), some (.ref la), some (.ref lo), some (.ref ka), y6, x7, some (.ref M), y9, some (.ref wa)] ∧ Same H3 G ∧ G wa = some (.lst (nms acc)) ∧ G ka = some (.lst (((d.o.take j).map (·.n)).map V.str)) ∧ acc.length ≤ j ∧ ownL [] d.o = acc ++ ownL ((d.o.take j).map (·.n)) (d.o.drop j))
          ⟨x6, x9, [], rfl, s1, w1, k1, Nat.le_refl _, rfl⟩ (fun j σ G _ ⟨_, _, _, _, s, _⟩ => SqL.of (s _ _ (s3 _ _ hlo))) ?_ ?_
        · rintro j v σ G2 G3 hj ⟨y6, y9, acc, rfl, s2, gw, gk, le, eq⟩ ⟨rfl, hv2⟩
          obtain ⟨m, hm, Z, rfl, hZ⟩ := ro2.getL hv2
          obtain ⟨jlt, ej⟩ := List.getElem?_eq_some_iff.mp hm
          rw [List.drop_eq_getElem_cons jlt, ej] at eq
          refine ⟨Z, _, rfl, SqT.of (s2 _ _ (s3 _ _ hZ)), rfl, ?_⟩
          refine ⟨_, _, rfl, _, _, rfl, rfl, ?_⟩
          refine ⟨_, rfl, .inl ⟨rfl, _, SqL.of gw⟩, ?_⟩
          generalize hkn : (d.o.take j).map (·.n) = kn at gk eq
          have lkn : kn.length ≤ 20 := by rw [← hkn, List.length_map, List.length_take]; omega
          show tIf _ _ _ _ _ _
          refine joinE (t := tIf _ _ _) (R := fun v H' => ∃ b, v = .ref b ∧ G3 b = none ∧ H' = upd G3 b (.lst (nms (if m.n ∈ kn then [m.i] else [])))) (fun Q' q' => ?_) ?_
          · refine ⟨_, rfl, _, rfl, ka, _, rfl, .inl (SqL.of gk), rfl, strs_flat kn, _, rfl, ?_⟩
            rw [show (if false = true then !inV (V.str m.n) (kn.map V.str) else inV (V.str m.n) (kn.map V.str)) = decide (m.n ∈ kn) from inV_strs _ _]
            by_cases h1 : m.n ∈ kn
            · rw [decide_eq_true h1]
              refine iteT ⟨_, rfl, by show 1 ≤ _; decide, fun b hb => q' _ _ ⟨b, rfl, hb, ?_⟩⟩
              rw [if_pos h1]
              rfl
            · rw [decide_eq_false h1]
              refine iteF ⟨by decide, fun b hb => q' _ _ ⟨b, rfl, hb, ?_⟩⟩
              rw [if_neg h1]
              rfl
          · rintro v H' ⟨b, rfl, hb, rfl⟩
            have nbw : b ≠ wa := (ne_of_none gw hb).symm
            have nbk : b ≠ ka := (ne_of_none gk hb).symm
            rw [show ownL kn (m :: d.o.drop (j + 1)) = (if m.n ∈ kn then [m.i] else []) ++ ownL (kn ++ [m.n]) (d.o.drop (j + 1)) from rfl] at eq
            have zl : (if m.n ∈ kn then [m.i] else []).length ≤ 1 := by split <;> simp
            generalize (if m.n ∈ kn then [m.i] else []) = z at eq zl ⊢
            have jl : j < 20 := by omega
            refine ⟨wa, b, nms acc, nms z, rfl, rfl, same_new hb _ _ gw, upd_same, ?_, ?_⟩
            · rw [nms_len, nms_len]
              exact Nat.le_of_lt (small1000 (by omega))
            refine ⟨_, rfl, .inl ⟨rfl, _, SqL.of (by rw [upd_ne (Ne.symm nwk)]; exact same_new hb _ _ gk)⟩, _, rfl, ka, _, _, rfl, rfl, by rw [upd_ne (Ne.symm nwk)]; exact same_new hb _ _ gk, ?_, ?_⟩
            · rw [List.length_map]
              exact small1000 (by omega)
            have e1 : (d.o.take (j + 1)).map (·.n) = kn ++ [m.n] := by rw [List.take_add_one, hm, List.map_append, hkn]; rfl
            refine ⟨_, _, acc ++ z, rfl, fun c o e => ?_, ?_, ?_, ?_, ?_⟩
            · rw [upd_ne (ne_of_none e kN), upd_ne (ne_of_none e wN)]
              exact same_new hb _ _ (s2 _ _ e)
            · rw [upd_ne nwk, upd_same, nms_app]
            · rw [upd_same, e1, List.map_append]
              rfl
            · rw [List.length_append]
              omega
            · rw [e1, eq, List.append_assoc]
        · rintro σ G2 ⟨y6, y9, acc, rfl, s2, gw, gk, le, eq⟩
          rw [lo2, List.take_length] at gk
          rw [lo2, List.take_length, List.drop_length] at eq
          have eq : ownL [] d.o = acc := eq.trans (List.append_nil _)
          have al : acc.length ≤ 20 := by omega
          refine ⟨_, rfl, la, rfl, ⟨_, SqL.of (s2 _ _ (s3 _ _ hla))⟩, ?_⟩
          refine for_it (walk_list (K := K) (a := la) (xs := xa)) (fun j σ G => ∃ (y6 y7 : Option V) (kb : Addr) (kn : List Str) (acc : List Nat), σ = [some (.ref l), some (.ref N), some (.str d.n), some (.ref la), some (.ref lo), some (.ref kb), y6, y7, some (.ref M), y9, some (.ref wa)] ∧ Same H3 G ∧ G wa = some (.lst (nms acc)) ∧ G kb = some (.lst (kn.map V.str)) ∧ kb ≠ wa ∧ acc.length ≤ 20 + j ∧ kn.length ≤ 20 + 20 * j ∧ wrongL ds d = acc ++ aheadL ds kn (d.a.drop j))
            ⟨y6, x7, ka, d.o.map (·.n), acc, rfl, s2, gw, gk, Ne.symm nwk, by omega, by rw [List.length_map]; omega, by rw [wrongL_own, eq]; rfl⟩ (fun j σ G _ ⟨_, _, _, _, _, _, s, _⟩ => SqL.of (s _ _ (s3 _ _ hla))) ?_ ?_
          · rintro j v σ G3 G4 hj ⟨z6, z7, kb, kn, acc, rfl, s4, gw, gk, nkw, la3, lk3, eq⟩ ⟨rfl, hv2⟩
            obtain ⟨m, hm, Z, rfl, hZ⟩ := ra2.getL hv2
            obtain ⟨jlt, ej⟩ := List.getElem?_eq_some_iff.mp hm
            rw [List.drop_eq_getElem_cons jlt, ej] at eq
            obtain ⟨W, vW, hW⟩ := own m.n (imn d dm m (List.mem_of_getElem? hm))
            have gW := s4 _ _ hW
            have gM := s4 _ _ m3
            have fo := ownsOf_few few m.n
            refine ⟨Z, _, rfl, SqT.of (s4 _ _ (s3 _ _ hZ)), rfl, ?_⟩
            refine ⟨_, _, rfl, _, _, rfl, rfl, ?_⟩
            refine ⟨_, rfl, .inl ⟨rfl, _, SqL.of gw⟩, ?_⟩
            rw [show aheadL ds kn (m :: d.a.drop (j + 1)) = (if (ownsOf ds m.n).any (fun x => decide (x ∈ kn)) = true then [m.i] else []) ++ aheadL ds (kn ++ ownsOf ds m.n) (d.a.drop (j + 1)) from rfl] at eq
            generalize ownsOf ds m.n = ns at hW gW fo eq
            show tIf _ _ _ _ _ _
            refine joinE (t := tIf _ _ _) (R := fun v H' => ∃ b, v = .ref b ∧ G4 b = none ∧ Same G4 H' ∧ H' b = some (.lst (nms (if ns.any (fun x => decide (x ∈ kn)) = true then [m.i] else [])))) (fun Q' q' => ?_) ?_
            · refine ⟨_, rfl, _, rfl, M, _, rfl, .inl ⟨_, .inr m.n, .inl gM, rfl, vW.symm⟩, W, rfl, ⟨_, SqL.of gW⟩, fun B hB => ?_⟩
              refine lc_it (walk_list (K := K) (a := W) (xs := ns.map V.str)) (fun k G5 => G5 = upd G4 B (.lst (((ns.take k).map fun x => decide (x ∈ kn)).map V.bl))) rfl (fun k G5 _ e => by rw [e]; exact SqL.of (same_new hB _ _ gW)) ?_ ?_
              · rintro k v2 G5 G6 hk rfl ⟨rfl, hkv⟩
                rw [List.getElem?_map] at hkv
                rw [List.length_map] at hk
                obtain ⟨x, hx, rfl⟩ := Option.map_eq_some_iff.mp hkv
                refine ⟨rfl, _, rfl, _, rfl, kb, _, rfl, .inl (SqL.of (same_new hB _ _ gk)), rfl, strs_flat kn, _, upd_same, ?_, ?_⟩
                · rw [List.length_map, List.length_map, List.length_take]
                  exact small1000 (by omega)
                · rw [show (if false = true then !inV (V.str x) (kn.map V.str) else inV (V.str x) (kn.map V.str)) = decide (x ∈ kn) from inV_strs _ _]
                  rw [upd_upd, List.take_add_one, hx, List.map_append, List.map_append]
                  rfl
              rintro G5 rfl
              rw [List.length_map, List.take_length]
              have s45 : Same G4 (upd G4 B (.lst ((ns.map fun x => decide (x ∈ kn)).map V.bl))) := same_new hB
              have b5 : (upd G4 B (.lst ((ns.map fun x => decide (x ∈ kn)).map V.bl))) B = some (.lst ((ns.map fun x => decide (x ∈ kn)).map V.bl)) := upd_same
              generalize upd G4 B (.lst ((ns.map fun x => decide (x ∈ kn)).map V.bl)) = G5 at s45 b5 ⊢
              refine ⟨B, ns.map (fun x => decide (x ∈ kn)), rfl, SqL.of b5, _, rfl, ?_⟩
              have ea : (ns.map (fun x => decide (x ∈ kn))).any id = ns.any fun x => decide (x ∈ kn) := by
                rw [List.any_map]
                rfl
              rw [ea]
              cases hz : ns.any fun x => decide (x ∈ kn) with
              | true =>
                refine iteT ⟨_, rfl, by show 1 ≤ _; decide, fun b hb => q' _ _ ⟨b, rfl, new_of s45 hb, fun c o e => same_new hb _ _ (s45 _ _ e), ?_⟩⟩
                rw [if_pos hz]
                exact upd_same
              | false =>
                refine iteF ⟨by decide, fun b hb => q' _ _ ⟨b, rfl, new_of s45 hb, fun c o e => same_new hb _ _ (s45 _ _ e), ?_⟩⟩
                rw [if_neg (by rw [hz]; exact Bool.false_ne_true)]
                exact upd_same
            · rintro v H' ⟨b, rfl, hb, sb, eb⟩
              have zl : (if ns.any (fun x => decide (x ∈ kn)) = true then [m.i] else []).length ≤ 1 := by split <;> simp
              generalize (if ns.any (fun x => decide (x ∈ kn)) = true then [m.i] else []) = z at eq zl eb
              have jl : j < 20 := by omega
              have nbw : b ≠ wa := (ne_of_none gw hb).symm
              have nWw : W ≠ wa := ne_of_none hW wN
              refine ⟨wa, b, nms acc, nms z, rfl, rfl, sb _ _ gw, eb, ?_, ?_⟩
              · rw [nms_len, nms_len]
                exact Nat.le_of_lt (small1000 (by omega))
              have s5 : Same H3 (upd H' wa (.lst (nms acc ++ nms z))) := fun c o e => by
                rw [upd_ne (ne_of_none e wN)]
                exact sb _ _ (s4 _ _ e)
              have w5 : (upd H' wa (.lst (nms acc ++ nms z))) wa = some (.lst (nms (acc ++ z))) := by rw [upd_same, nms_app]
              have k5 : (upd H' wa (.lst (nms acc ++ nms z))) kb = some (.lst (kn.map V.str)) := by
                rw [upd_ne nkw]
                exact sb _ _ gk
              generalize upd H' wa (.lst (nms acc ++ nms z)) = G6 at s5 w5 k5 ⊢
              refine ⟨_, rfl, _, rfl, _, rfl, M, _, rfl, .inl ⟨_, .inr m.n, .inl (s5 _ _ m3), rfl, vW.symm⟩, kb, W, kn.map V.str, ns.map V.str, rfl, rfl, k5, s5 _ _ hW, ?_, fun kc hkc => ?_⟩
              · rw [List.length_map, List.length_map]
                exact Nat.le_of_lt (small1000 (by omega))
              refine ⟨_, _, kc, kn ++ ns, acc ++ z, rfl, fun c o e => same_new hkc _ _ (s5 _ _ e), same_new hkc _ _ w5, by rw [upd_same, List.map_append], (ne_of_none w5 hkc).symm, ?_, ?_, ?_⟩
              · rw [List.length_append]
                omega
              · rw [List.length_append]
                omega
              · rw [eq, List.append_assoc]
          · rintro σ G3 ⟨z6, z7, kb, kn, acc, rfl, s4, gw, gk, nkw, la3, lk3, eq⟩
            rw [la2, List.drop_length] at eq
            have eq : wrongL ds d = acc := eq.trans (List.append_nil _)
            have e : ∀ (q : List Fd), firstTw ds (d :: q) = (if wrongL ds d = [] then firstTw ds q else some (d.n, mn (wrongL ds d))) := fun _ => rfl
            rw [e, eq] at hd
            refine ⟨_, rfl, by decide, fun eb heb => ⟨natD acc, natD [], .lst (SqL.of (same_new heb _ _ gw)) (natD_all acc), .lst (SqL.of upd_same) .nil, natD_shaped acc, natD_shaped [], _, rfl, ?_⟩⟩
            have s6 : Same H3 (upd G3 eb (.lst [])) := fun b o e => same_new heb _ _ (s4 _ _ e)
            match acc, hd, gw, eq, la3 with
            | [], hd, _, _, _ =>
              refine iteF ?_
              exact ⟨_, _, _, _, _, _, _, _, rfl, s6, hd.trans (if_pos rfl)⟩
            | a :: r, hd, gw, eq, la3 =>
              refine iteT ?_
              have due := hd.trans (if_neg (by simp))
              refine ⟨_, rfl, _, rfl, wa, (a :: r).map fun n => ((n : Nat) : Int), rfl, SqL.of (by rw [List.map_map]; exact same_new heb _ _ gw), by rw [List.length_map, List.length_cons]; omega, fun m hm hle => ?_⟩
              have em : m = ((mn (a :: r) : Nat) : Int) := by
                obtain ⟨k, hk, rfl⟩ := List.mem_map.mp hm
                have k1 := mn_le hk
                have k2 := hle _ (List.mem_map_of_mem (mn_mem (by simp)))
                have k3 : ((k : Nat) : Int) ≤ ((mn (a :: r) : Nat) : Int) := k2
                show ((k : Nat) : Int) = _
                omega
              subst em
              refine ⟨by show 3 ≤ sizeLine; decide, fun R hR => ?_⟩
              exact q2 i0 d.n _ due _ R (fun b o e => same_new hR _ _ (s6 _ _ (s3 _ _ e))) upd_same
      · rintro σ G ⟨x2, x3, x4, x5, x6, x7, x9, x10, rfl, sm, hd⟩
        rw [lx, List.drop_length] at hd
        exact q3 i0 hd _ fun b o e => sm _ _ (s3 _ _ e)
end
end V5

set_option maxHeartbeats 400000
/-! _law_files: what stands still; the words it draws from. -/
namespace V5
open PySem PySem.Spec PyProof.Rows L2 K2

theorem _root_.K2.Box.ne {c : Int} {G : Hp} {b p : Addr} (x : Box c G b) (n : G p = none) : p ≠ b := fun e => by
  obtain ⟨o, m, k, h, _⟩ := x
  rw [e, h] at n
  cases n
theorem _root_.K2.Box.le {c c' : Int} {H : Hp} {b : Addr} (x : Box c H b) (h : c ≤ c') : Box c' H b := by
  obtain ⟨o, m, k, hb, a1, a2, a3, a4⟩ := x
  exact ⟨o, m, k, hb, a1, a2, a3, by omega⟩
theorem _root_.K2.Box.off {c : Int} {G : Hp} {b p : Addr} {o : HO} (x : Box c G b) (n : p ≠ b) : Box c (upd G p o) b := by
  obtain ⟨u, m, k, hb, r⟩ := x
  exact ⟨u, m, k, by rw [upd_ne n.symm]; exact hb, r⟩
theorem _root_.K2.Box.but {c : Int} {G G' : Hp} {b p : Addr} (x : Box c G b) (k : But p G G') (n : p ≠ b) : Box c G' b := by
  obtain ⟨u, m, j, hb, r⟩ := x
  exact ⟨u, m, j, by rw [k b n.symm]; exact hb, r⟩
/-! ### what stands still -/
section
variable {Z G G' : Hp} {p : Addr} {o : HO}
theorem still_kept (s : Same Z G) (n : Z p = none) (k : Kept p G G') : Same Z G' := fun a u e => k a u (s a u e) (ne_of_none e n)
theorem still_but (s : Same Z G) (n : Z p = none) (k : But p G G') : Same Z G' := fun a u e => by
  rw [k a (ne_of_none e n)]
  exact s a u e
theorem still_put (s : Same Z G) (n : Z p = none) : Same Z (upd G p o) := fun a u e => by
  rw [upd_ne (ne_of_none e n)]
  exact s a u e
theorem still_new (s : Same Z G) (h : G p = none) : Same Z (upd G p o) := fun a u e => same_new h _ _ (s a u e)
theorem still_more (s : Same Z G) (h : G p = some o) : Same (upd Z p o) G := fun a u e => by
  by_cases n : a = p
  · subst n
    rw [upd_same] at e
    cases e
    exact h
  · rw [upd_ne n] at e
    exact s a u e
theorem kept_none {b : Addr} (k : Kept b G G') (n : p ≠ b) (h : G' p = none) : G p = none := by
  cases z : G p with
  | none => rfl
  | some u =>
    have := k _ _ z n
    rw [h] at this
    cases this
theorem more_same (n : Z p = none) : Same Z (upd Z p o) := same_new n
end
/-- free of the frozen part -/
theorem zfree {Z : Hp} {p q : Addr} {o : HO} (n : Z q = none) (h : q ≠ p) : (upd Z p o) q = none := by
  rw [upd_ne h]
  exact n
theorem RPr.same {Z Z' : Hp} (s : Same Z Z') {v : V} {m : Mk} : RPr Z v m → RPr Z' v m := fun ⟨T, e, h⟩ => ⟨T, e, s _ _ h⟩
theorem RFd.same {Z Z' : Hp} (s : Same Z Z') {v : V} {d : Fd} : RFd Z v d → RFd Z' v d := fun ⟨T, la, lo, xa, xo, e, h1, h2, h3, h4, h5⟩ =>
  ⟨T, la, lo, xa, xo, e, s _ _ h1, s _ _ h2, h3.imp fun _ _ x => x.same s, s _ _ h4, h5.imp fun _ _ x => x.same s⟩
theorem RPg.same {Z Z' : Hp} (s : Same Z Z') {v : V} {p : Str × Str} : RPg Z v p → RPg Z' v p := fun ⟨T, e, h⟩ => ⟨T, e, s _ _ h⟩
/-! ### the words -/
def nm6 : List Str := ["a", "b", "c", "d", "main", "zz"]
def wd6 : List Str := ["t", "u", "v", "w", "x", "y"]
theorem nm6_nm : ∀ n ∈ nm6, isNm n = true := by decide +kernel
theorem no_nm : isNm "nofile" = true := by decide +kernel
theorem wd_nm : ∀ u ∈ wd6, ∀ s ∈ ("" : Str) :: nm6, isNm (u ++ s) = true := by decide +kernel
theorem nm6_nd (k : Nat) : (nm6.take k).Nodup := List.Nodup.sublist (List.take_sublist k nm6) (by decide +kernel)
theorem nm6_asc : nm6.Pairwise fun a b => ltS b a = false := by decide +kernel
theorem lead0 : Closed (cp ("" : Str)) [] ∧ Tx "" := ⟨by rw [show cp ("" : Str) = [] by decide +kernel]; exact Closed.nil, .of (by decide +kernel)⟩
theorem lead1 : Closed (cp ("# x\n" : Str)) [] ∧ Tx "# x\n" := ⟨by rw [show cp ("# x\n" : Str) = [35, 32, 120, 10] by decide +kernel]; exact Closed.rem, .of (by decide +kernel)⟩
theorem lead2 : Closed (cp ("\n" : Str)) [] ∧ Tx "\n" := ⟨by rw [show cp ("\n" : Str) = [10] by decide +kernel]; exact Closed.feed, .of (by decide +kernel)⟩
theorem lead_ok : ∀ x ∈ (["", "# x\n", "\n"] : List Str), PgS x [] [] ∧ x.length ≤ 4 := fun x hx => by
  rcases List.mem_cons.mp hx with rfl | hx
  · exact ⟨.begin lead0.1 lead0.2, by decide +kernel⟩
  rcases List.mem_cons.mp hx with rfl | hx
  · exact ⟨.begin lead1.1 lead1.2, by decide +kernel⟩
  rw [List.mem_singleton] at hx
  subst hx
  exact ⟨.begin lead2.1 lead2.2, by decide +kernel⟩
/-- a file with its text -/
structure RowOk (r : Str × Fi) : Prop where
  pg : PgS r.1 r.2.im r.2.ds
  len : r.1.length ≤ 1000
  im : r.2.im.length ≤ 3
  ds : r.2.ds.length ≤ 2
structure RowsOk (k : Nat) (rs : List (Str × Fi)) : Prop where
  all : ∀ r ∈ rs, RowOk r
  nms : rs.map (·.2.f) = nm6.take k
def spFiles : Sp := fun vs H Q _ => ∃ (b : Addr) (c : Int), vs = [.ref b] ∧ Box c H b ∧ c ≤ 10000 ∧
  ∀ H' Z t fl pl xf xp rs k, Kept b H H' → Box (c + 73) H' b → Same Z H' → Z b = none → Z t = some (.tup [.ref fl, .ref pl]) → Z fl = some (.lst xf) → Z pl = some (.lst xp) →
    A2 (RFd Z) xf (rs.map fun r => fdOf' r.2) → A2 (RPg Z) xp (rs.map fun r => (r.2.f, r.1)) → 1 ≤ k → k ≤ 6 → RowsOk k rs → Q (.ref t) H'
/-! ### what changes while a file is written -/
structure Six (b fl pl D la lo : Addr) : Prop where
  fb : fl ≠ b
  pb : pl ≠ b
  fp : fl ≠ pl
  Db : D ≠ b
  Df : D ≠ fl
  Dp : D ≠ pl
  ab : la ≠ b
  af : la ≠ fl
  ap : la ≠ pl
  aD : la ≠ D
  ob : lo ≠ b
  of : lo ≠ fl
  op : lo ≠ pl
  oD : lo ≠ D
  oa : lo ≠ la
structure Mu (H0 : Hp) (b fl pl D la lo : Addr) (xf xp : List V) (c : Int) (Z : Hp) (x : Str) (xa xo : List V) (G : Hp) : Prop where
  kp : Kept b H0 G
  bx : Box c G b
  sm : Same Z G
  zb : Z b = none
  zf : Z fl = none
  zp : Z pl = none
  zD : Z D = none
  za : Z la = none
  zo : Z lo = none
  hD : H0 D = none
  ha : H0 la = none
  ho : H0 lo = none
  gf : G fl = some (.lst xf)
  gp : G pl = some (.lst xp)
  pg : Pag G D x
  ga : G la = some (.lst xa)
  go : G lo = some (.lst xo)
section
variable {H0 : Hp} {b fl pl D la lo : Addr} {xf xp : List V} {c : Int} {Z : Hp} {x : Str} {xa xo : List V} {G G' : Hp}
theorem Mu.kept (d : Six b fl pl D la lo) (m : Mu H0 b fl pl D la lo xf xp c Z x xa xo G) {c' : Int} (k : Kept b G G') (bx : Box c' G' b) : Mu H0 b fl pl D la lo xf xp c' Z x xa xo G' :=
  ⟨m.kp.trans k, bx, still_kept m.sm m.zb k, m.zb, m.zf, m.zp, m.zD, m.za, m.zo, m.hD, m.ha, m.ho, k _ _ m.gf d.fb, k _ _ m.gp d.pb, k _ _ m.pg d.Db, k _ _ m.ga d.ab, k _ _ m.go d.ob⟩
theorem Mu.new (m : Mu H0 b fl pl D la lo xf xp c Z x xa xo G) {p : Addr} {o : HO} (h : G p = none) : Mu H0 b fl pl D la lo xf xp c Z x xa xo (upd G p o) :=
  ⟨m.kp.trans fun a u e _ => same_new h _ _ e, m.bx.off (m.bx.ne h), still_new m.sm h, m.zb, m.zf, m.zp, m.zD, m.za, m.zo, m.hD, m.ha, m.ho, same_new h _ _ m.gf, same_new h _ _ m.gp, same_new h _ _ m.pg, same_new h _ _ m.ga, same_new h _ _ m.go⟩
theorem Mu.put (d : Six b fl pl D la lo) (m : Mu H0 b fl pl D la lo xf xp c Z x xa xo G) {x' : Str} (k : But D G G') (pg : Pag G' D x') : Mu H0 b fl pl D la lo xf xp c Z x' xa xo G' :=
  ⟨fun a u e n => by
      rw [k a (ne_of_none e m.hD)]
      exact m.kp a u e n, m.bx.but k d.Db, still_but m.sm m.zD k, m.zb, m.zf, m.zp, m.zD, m.za, m.zo, m.hD, m.ha, m.ho, (k _ d.Df.symm).trans m.gf, (k _ d.Dp.symm).trans m.gp, pg, (k _ d.aD).trans m.ga, (k _ d.oD).trans m.go⟩
theorem Mu.appA (d : Six b fl pl D la lo) (m : Mu H0 b fl pl D la lo xf xp c Z x xa xo G) {ys : List V} : Mu H0 b fl pl D la lo xf xp c Z x ys xo (upd G la (.lst ys)) :=
  have k : But la G (upd G la (.lst ys)) := But.upd
  ⟨fun a u e n => by
      rw [k a (ne_of_none e m.ha)]
      exact m.kp a u e n, m.bx.but k d.ab, still_but m.sm m.za k, m.zb, m.zf, m.zp, m.zD, m.za, m.zo, m.hD, m.ha, m.ho, (k _ d.af.symm).trans m.gf, (k _ d.ap.symm).trans m.gp, (k _ d.aD.symm).trans m.pg, upd_same, (k _ d.oa).trans m.go⟩
theorem Mu.appO (d : Six b fl pl D la lo) (m : Mu H0 b fl pl D la lo xf xp c Z x xa xo G) {ys : List V} : Mu H0 b fl pl D la lo xf xp c Z x xa ys (upd G lo (.lst ys)) :=
  have k : But lo G (upd G lo (.lst ys)) := But.upd
  ⟨fun a u e n => by
      rw [k a (ne_of_none e m.ho)]
      exact m.kp a u e n, m.bx.but k d.ob, still_but m.sm m.zo k, m.zb, m.zf, m.zp, m.zD, m.za, m.zo, m.hD, m.ha, m.ho, (k _ d.of.symm).trans m.gf, (k _ d.op.symm).trans m.gp, (k _ d.oD.symm).trans m.pg, (k _ d.oa.symm).trans m.ga, upd_same⟩
/-- what is new stands still from now on -/
theorem Mu.frz (m : Mu H0 b fl pl D la lo xf xp c Z x xa xo G) {p : Addr} {o : HO} (h : G p = none) : Mu H0 b fl pl D la lo xf xp c (upd Z p o) x xa xo (upd G p o) :=
  have n := m.new (o := o) h
  ⟨n.kp, n.bx, still_more n.sm upd_same, zfree m.zb (m.bx.ne h).symm, zfree m.zf (ne_of_none m.gf h), zfree m.zp (ne_of_none m.gp h), zfree m.zD (ne_of_none m.pg h), zfree m.za (ne_of_none m.ga h), zfree m.zo (ne_of_none m.go h), m.hD, m.ha, m.ho, n.gf, n.gp, n.pg, n.ga, n.go⟩
theorem Mu.frz_same (m : Mu H0 b fl pl D la lo xf xp c Z x xa xo G) {p : Addr} {o : HO} (h : G p = none) : Same Z (upd Z p o) := same_new (new_of m.sm h)
theorem Mu.le (m : Mu H0 b fl pl D la lo xf xp c Z x xa xo G) {c' : Int} (h : c ≤ c') : Mu H0 b fl pl D la lo xf xp c' Z x xa xo G := { m with bx := m.bx.le h }
end
end V5

set_option maxHeartbeats 2000000
/-! _law_files. -/
namespace V5
open PySem PySem.Spec PyProof.Rows L2 K2
theorem cut_take (ds : List V) (r : Nat) (h : r ≤ ds.length) : cutV ds none (some (r : Int)) = ds.take r := by
  unfold cutV
  rw [HT.sIx_none, HT.sIx_nat, List.drop_zero, Nat.min_eq_left h, Nat.sub_zero]
section
variable {P : Program} {w : World} {K : PySem.W.Frag} {mg : Str → Option Value} {base : Heap}
theorem ok_files (E : Env K mg) : FnOk P w K mg base CX0 3 (f__law_files K) (fd__law_files K) ["_law_box_here"] spFiles := by
  refine E.F__law_files.ok sc__law_files (fun vs H Q E h => ?_) (fun cdv A outer s H vs Q E1 hr h => ?_)
  · obtain ⟨b, c, rfl, _⟩ := h
    rfl
  · obtain ⟨b, c, rfl, hb, hc, q⟩ := h
    have nd := sc__law_files.nd
    have GT : FnOk P w K mg base CX0 1 (f__law_take K) (fd__law_take K) ["_law_box_here", "_law_many"] spTake := ok_take E.F__law_take
    have GO : FnOk P w K mg base CX0 2 (f__law_of K) (fd__law_of K) ["_law_box_here", "_law_some"] spOf := ok_of E.F__law_of E.F__law_take E.D__law_take.b E.D__law_take.g E.bare
    have GP : FnOk P w K mg base CX0 1 (f__law_put K) (fd__law_put K) ["_law_state", "_law_part"] spPut := ok_put E
    have hr1 : Room 1 _ := hr.mono (by decide)
    refine ⟨_, pss_cons (ps_set (i := 1) nd rfl (.inl rfl) (pe_slice sl_list (pe_lst (pa_cons pe_str <| pa_cons pe_str <| pa_cons pe_str <| pa_cons pe_str <| pa_cons pe_str <| pa_cons pe_str pa_nil)) po_none
          (po_some (pe_op op_add pe_int (pe_call GT hr1 (by rfl) E.D__law_take.g E.D__law_take.k E.D__law_take.b .nil pass0 (pa_cons (pv 0) (pa_cons pe_int pa_nil)))))))
      <| pss_cons (ps_par (by rfl) nd (i := 2) (j := 3) rfl rfl (by decide) rfl rfl (pa_cons (pe_lst pa_nil) (pa_cons (pe_lst pa_nil) pa_nil)) (by rfl))
      <| pss_cons (ps_for PassesOwn.never rfl (pi_list (pv 1)) (pg_name (i := 4) nd rfl (.inl rfl))
          (pss_cons (ps_par3 (i := 5) (j := 6) (l := 7) rfl nd rfl rfl rfl (by decide) (by decide) (by decide) rfl rfl rfl
              (pa_cons (pe_disp (pps_cons pe_str (pe_call GO hr (by rfl) E.D__law_of.g E.D__law_of.k E.D__law_of.b .nil pass0 (pa_cons (pv 0) (pa_cons (pe_lst (pa_cons pe_str <| pa_cons pe_str <| pa_cons pe_str pa_nil)) pa_nil))) pps_nil) rfl rfl (by simp) (by decide))
                (pa_cons (pe_lst pa_nil) (pa_cons (pe_lst pa_nil) pa_nil))) rfl)
          <| pss_cons (ps_for PassesOwn.never rfl (pi_range1 (by rfl) E.u_range (pa_cons (pe_call GO hr (by rfl) E.D__law_of.g E.D__law_of.k E.D__law_of.b .nil pass0 (pa_cons (pv 0) (pa_cons (pe_lst (pa_cons pe_int <| pa_cons pe_int <| pa_cons pe_int <| pa_cons pe_int <| pa_cons pe_int pa_nil)) pa_nil))) pa_nil)) (pg_name (i := 8) nd rfl (.inl rfl))
              (pss_cons (ps_set (i := 9) nd rfl (.inl rfl) (pe_call GO hr (by rfl) E.D__law_of.g E.D__law_of.k E.D__law_of.b .nil pass0 (pa_cons (pv 0) (pa_cons (pe_op op_cat (pe_op op_cat (pv 1) (pv 1)) (pe_lst (pa_cons pe_str pa_nil))) pa_nil))))
              <| pss_cons (ps_expr (pe_call GP hr1 (by rfl) E.D__law_put.g E.D__law_put.k E.D__law_put.b .nil pass0 (pa_cons (pv 5) (pa_cons pe_str pa_nil))))
              <| pss_one (ps_expr (pe_bm PySem.F.plainAttrs_list PySem.F.slot_list_append PySem.F.type_list_append mt_append (pv 6) (pa_cons (pe_tup (pa_cons (pe_call GP hr1 (by rfl) E.D__law_put.g E.D__law_put.k E.D__law_put.b .nil pass0 (pa_cons (pv 5) (pa_cons (pv 9) pa_nil))) (pa_cons (pv 9) pa_nil))) pa_nil)))))
          <| pss_cons (ps_for PassesOwn.never rfl (pi_range1 (by rfl) E.u_range (pa_cons (pe_call GO hr (by rfl) E.D__law_of.g E.D__law_of.k E.D__law_of.b .nil pass0 (pa_cons (pv 0) (pa_cons (pe_lst (pa_cons pe_int <| pa_cons pe_int <| pa_cons pe_int <| pa_cons pe_int pa_nil)) pa_nil))) pa_nil)) (pg_name (i := 8) nd rfl (.inl rfl))
              (pss_cons (ps_set (i := 10) nd rfl (.inl rfl) (pe_op op_add_str
                  (pe_call GO hr (by rfl) E.D__law_of.g E.D__law_of.k E.D__law_of.b .nil pass0 (pa_cons (pv 0) (pa_cons (pe_lst (pa_cons pe_str <| pa_cons pe_str <| pa_cons pe_str <| pa_cons pe_str <| pa_cons pe_str <| pa_cons pe_str pa_nil)) pa_nil)))
                  (pe_call GO hr (by rfl) E.D__law_of.g E.D__law_of.k E.D__law_of.b .nil pass0 (pa_cons (pv 0) (pa_cons (pe_lst (pa_cons pe_str <| pa_cons pe_str <| pa_cons (pv 4) pa_nil)) pa_nil)))))
              <| pss_cons (ps_set (i := 11) nd rfl (.inl rfl) (pe_call GT hr1 (by rfl) E.D__law_take.g E.D__law_take.k E.D__law_take.b .nil pass0 (pa_cons (pv 0) (pa_cons pe_int pa_nil))))
              <| pss_cons (ps_expr (pe_call GP hr1 (by rfl) E.D__law_put.g E.D__law_put.k E.D__law_put.b .nil pass0 (pa_cons (pv 5) (pa_cons (pe_ix ix_list (pe_lst (pa_cons pe_str <| pa_cons pe_str pa_nil)) (pv 11) (fun _ _ => rfl)) pa_nil))))
              <| pss_cons (ps_expr (pe_bm PySem.F.plainAttrs_list PySem.F.slot_list_append PySem.F.type_list_append mt_append (pv 7) (pa_cons (pe_tup (pa_cons (pe_call GP hr1 (by rfl) E.D__law_put.g E.D__law_put.k E.D__law_put.b .nil pass0 (pa_cons (pv 5) (pa_cons (pv 10) pa_nil))) (pa_cons (pv 10) pa_nil))) pa_nil)))
              <| pss_one (ps_expr (pe_call GP hr1 (by rfl) E.D__law_put.g E.D__law_put.k E.D__law_put.b .nil pass0 (pa_cons (pv 5) (pa_cons (pe_ix ix_list (pe_lst (pa_cons pe_str <| pa_cons pe_str pa_nil)) (pv 11) (fun _ _ => rfl)) pa_nil))))))
          <| pss_cons (ps_expr (pe_bm PySem.F.plainAttrs_list PySem.F.slot_list_append PySem.F.type_list_append mt_append (pv 2) (pa_cons (pe_tup (pa_cons (pv 4) (pa_cons (pv 6) (pa_cons (pv 7) pa_nil)))) pa_nil)))
          <| pss_one (ps_expr (pe_bm PySem.F.plainAttrs_list PySem.F.slot_list_append PySem.F.type_list_append mt_append (pv 3) (pa_cons (pe_tup (pa_cons (pv 4) (pa_cons (pe_dget (hu_of hr) (pv 5) pe_str (fun _ _ => rfl)) pa_nil))) pa_nil)))))
      <| pss_one (ps_ret (pe_tup (pa_cons (pv 2) (pa_cons (pv 3) pa_nil)))), ?_⟩
    refine ⟨by show 6 ≤ sizeLine; decide, fun l0 h0 => ?_⟩
    have b0 := hb.off (o := .lst (nm6.map V.str)) (hb.ne h0)
    have s0 : Kept b H (upd H l0 (.lst (nm6.map V.str))) := fun a o e _ => same_new h0 _ _ e
    have e0 : (upd H l0 (.lst (nm6.map V.str))) l0 = some (.lst (nm6.map V.str)) := upd_same
    have n0 : l0 ≠ b := hb.ne h0
    refine ⟨.ref b, rfl, b, 6, c, rfl, b0, by decide, by decide, by omega, fun H1 r k1 b1 r0 r1 => ?_⟩
    have e1 := k1 _ _ e0 n0
    obtain ⟨k, rfl⟩ : ∃ k : Nat, r = (k : Int) := ⟨r.toNat, by omega⟩
    refine ⟨1, k, rfl, rfl, 1 + k, rfl, l0, nm6.map V.str, rfl, SqL.of e1, fun S hS => ?_⟩
    have ecut : cutV (nm6.map V.str) none (some (1 + (k : Int))) = (nm6.take (k + 1)).map V.str := by
      rw [show (1 + (k : Int)) = ((k + 1 : Nat) : Int) by omega, cut_take _ _ (by rw [List.length_map]; show k + 1 ≤ 6; omega), List.map_take]
    rw [ecut]
    have kk : k + 1 ≤ 6 := by omega
    have k1' : 1 ≤ k + 1 := by omega
    generalize k + 1 = n at kk k1' ⊢
    have kp1 : Kept b H (upd H1 S (.lst ((nm6.take n).map V.str))) := (s0.trans k1).trans fun a o e _ => same_new hS _ _ e
    have b2 := b1.off (o := .lst ((nm6.take n).map V.str)) (b1.ne hS)
    have nSb := b1.ne hS
    have S2 : (upd H1 S (.lst ((nm6.take n).map V.str))) S = some (.lst ((nm6.take n).map V.str)) := upd_same
    clear e1 b1 k1 b0 e0 s0
    generalize upd H1 S (.lst ((nm6.take n).map V.str)) = H2 at kp1 b2 S2 ⊢
    -- found, pages
    refine ⟨by decide, fun fl hfl => ⟨by decide, fun pl hpl => ⟨_, _, rfl, ?_⟩⟩⟩
    have nflb := b2.ne hfl
    have nplb := (b2.off (o := .lst []) nflb).ne hpl
    have nfp : fl ≠ pl := ne_of_none upd_same hpl
    have b3 := (b2.off (o := .lst []) nflb).off (o := .lst []) nplb
    have kp3 : Kept b H (upd (upd H2 fl (.lst [])) pl (.lst [])) := kp1.trans fun a o e _ => same_new hpl _ _ (same_new hfl _ _ e)
    have S3 : (upd (upd H2 fl (.lst [])) pl (.lst [])) S = some (.lst ((nm6.take n).map V.str)) := same_new hpl _ _ (same_new hfl _ _ S2)
    have f3 : (upd (upd H2 fl (.lst [])) pl (.lst [])) fl = some (.lst []) := same_new hpl _ _ upd_same
    have p3 : (upd (upd H2 fl (.lst [])) pl (.lst [])) pl = some (.lst []) := upd_same
    have nSf : S ≠ fl := ne_of_none S2 hfl
    have nSp : S ≠ pl := ne_of_none (same_new hfl _ _ S2) hpl
    have hfH : H fl = none := by
      cases z : H fl with
      | none => rfl
      | some o => exact absurd (kp1 _ _ z nflb) (by rw [hfl]; exact fun z => nomatch z)
    have hpH : H pl = none := by
      cases z : H pl with
      | none => rfl
      | some o => exact absurd (same_new (o := .lst []) hfl _ _ (kp1 _ _ z nplb)) (by rw [hpl]; exact fun z => nomatch z)
    generalize upd (upd H2 fl (.lst [])) pl (.lst []) = H3 at b3 kp3 S3 f3 p3 ⊢
    clear b2 kp1 S2 hfl hpl
    have nl : (nm6.take n).length = n := by rw [List.length_take]; exact Nat.min_eq_left (by exact kk)
    refine ⟨_, rfl, S, rfl, ⟨_, SqL.of S3⟩, ?_⟩
    refine for_it (walk_list (K := K) (a := S) (xs := (nm6.take n).map V.str)) (fun i σ G => ∃ (Z : Hp) (x4 x5 x6 x7 x8 x9 x10 x11 : Option V) (xf xp : List V) (rs : List (Str × Fi)), σ = [some (.ref b), some (.ref S), some (.ref fl), some (.ref pl), x4, x5, x6, x7, x8, x9, x10, x11] ∧
      Kept b H G ∧ Box (c + 1 + 12 * i) G b ∧ Same Z G ∧ Z S = some (.lst ((nm6.take n).map V.str)) ∧ Z b = none ∧ Z fl = none ∧ Z pl = none ∧ G fl = some (.lst xf) ∧ G pl = some (.lst xp) ∧
      A2 (RFd Z) xf (rs.map fun r => fdOf' r.2) ∧ A2 (RPg Z) xp (rs.map fun r => (r.2.f, r.1)) ∧ (∀ r ∈ rs, RowOk r) ∧ rs.map (·.2.f) = (nm6.take n).take i)
      ⟨upd (fun _ => none) S (.lst ((nm6.take n).map V.str)), _, _, _, _, _, _, _, _, [], [], [], rfl, kp3, b3.le (by omega), still_more (Z := fun _ => none) (fun _ _ z => nomatch z) S3, upd_same, zfree rfl nSb.symm, zfree rfl nSf.symm, zfree rfl nSp.symm, f3, p3, .nil, .nil, (fun _ z => nomatch z), rfl⟩
      (fun i σ G _ ⟨_, _, _, _, _, _, _, _, _, _, _, _, _, _, _, s, z, _⟩ => SqL.of (s _ _ z)) ?_ ?_
    · rintro i v σ G G' hi ⟨Z, x4, x5, x6, x7, x8, x9, x10, x11, xf, xp, rs, rfl, kp, bx, sm, zS, zb, zf, zp, gf, gp, rf, rp, ok, nms⟩ ⟨rfl, hv⟩
      rw [List.getElem?_map] at hv
      rw [List.length_map, nl] at hi
      obtain ⟨nm, hnm, rfl⟩ := Option.map_eq_some_iff.mp hv
      have nm_in : nm ∈ nm6 := List.mem_of_mem_take (List.mem_of_getElem? hnm)
      -- the state, what is brought in, what is its own
      refine fun D hD => ⟨_, rfl, by show 3 ≤ sizeLine; decide, fun l1 hl1 => ?_⟩
      have nDb := bx.ne hD
      have bD := bx.off (o := .dK []) nDb
      have n1b := bD.ne hl1
      refine ⟨b, l1, [.str "", .str "# x\n", .str "\n"], _, rfl, bD.off n1b, upd_same, n1b, by decide, by decide, by omega, fun H4 v k4 b4 hv4 => ?_⟩
      obtain ⟨x, hx, rfl⟩ : ∃ x ∈ (["", "# x\n", "\n"] : List Str), v = .str x := by
        rcases List.mem_cons.mp hv4 with rfl | hv4
        · exact ⟨_, List.mem_cons_self, rfl⟩
        rcases List.mem_cons.mp hv4 with rfl | hv4
        · exact ⟨_, by simp, rfl⟩
        rw [List.mem_singleton] at hv4
        exact ⟨"\n", by simp, hv4⟩
      obtain ⟨pg0, px⟩ := lead_ok x hx
      have D4 : H4 D = some (.dK []) := k4 _ _ (same_new hl1 _ _ upd_same) nDb
      refine ⟨D4, [(.inr "page", .str x)], rfl, by show 1 ≤ 15; decide, ?_⟩
      have k5 : Kept b G' (upd H4 D (.dK [(.inr "page", .str x)])) := fun a o e n => by
        rw [upd_ne (ne_of_none e hD)]
        exact k4 _ _ (same_new hl1 _ _ (same_new hD _ _ e)) n
      have b5 := b4.off (o := .dK [(.inr "page", .str x)]) nDb
      have D5 : (upd H4 D (.dK [(.inr "page", .str x)])) D = some (.dK [(.inr "page", .str x)]) := upd_same
      rw [show mergeK [] [((Sum.inr "page", V.str x) : Key × V)] = [(.inr "page", .str x)] from rfl]
      generalize upd H4 D (.dK [(.inr "page", .str x)]) = H5 at k5 b5 D5 ⊢
      clear D4 hv4 k4 b4 hl1 bD
      refine ⟨by decide, fun la hla => ⟨by decide, fun lo hlo => ⟨_, _, _, rfl, ?_⟩⟩⟩
      have gf5 := k5 _ _ gf nflb
      have gp5 := k5 _ _ gp nplb
      have nab := b5.ne hla
      have nob := (b5.off (o := .lst []) nab).ne hlo
      have six : Six b fl pl D la lo := ⟨nflb, nplb, nfp, nDb, (ne_of_none gf hD).symm, (ne_of_none gp hD).symm, nab, (ne_of_none gf5 hla).symm, (ne_of_none gp5 hla).symm, (ne_of_none D5 hla).symm,
        nob, (ne_of_none (same_new hla _ _ gf5) hlo).symm, (ne_of_none (same_new hla _ _ gp5) hlo).symm, (ne_of_none (same_new hla _ _ D5) hlo).symm, (ne_of_none upd_same hlo).symm⟩
      have hlo5 : H5 lo = none := new_of (same_new hla) hlo
      have sm5 : Same Z H5 := still_kept sm zb k5
      have mu : Mu H b fl pl D la lo xf xp (c + 1 + 12 * (i : Nat) + 1) Z x [] [] (upd (upd H5 la (.lst [])) lo (.lst [])) :=
        ⟨(kp.trans k5).trans fun a o e _ => same_new hlo _ _ (same_new hla _ _ e), (b5.off nab).off nob, still_new (still_new sm5 hla) hlo, zb, zf, zp, new_of sm hD, new_of sm5 hla, new_of sm5 hlo5,
          kept_none kp nDb hD, kept_none (kp.trans k5) nab hla, kept_none (kp.trans k5) nob hlo5, same_new hlo _ _ (same_new hla _ _ gf5), same_new hlo _ _ (same_new hla _ _ gp5), same_new hlo _ _ (same_new hla _ _ D5), same_new hlo _ _ upd_same, upd_same⟩
      generalize upd (upd H5 la (.lst [])) lo (.lst []) = H6 at mu ⊢
      clear k5 b5 D5 hla hlo gf5 gp5 hlo5 sm5 kp bx sm gf gp hD
      -- what it brings in
      refine ⟨_, rfl, by show 5 ≤ sizeLine; decide, fun l2 hl2 => ?_⟩
      have mu2 := mu.new (o := .lst [.int 0, .int 0, .int 1, .int 2, .int 3]) hl2
      refine ⟨b, l2, [.int 0, .int 0, .int 1, .int 2, .int 3], _, rfl, mu2.bx, upd_same, mu.bx.ne hl2, by decide, by decide, by omega, fun H7 v k7 b7 hv7 => ?_⟩
      obtain ⟨j1, hj1, rfl⟩ : ∃ j : Nat, j ≤ 3 ∧ v = .int (j : Nat) := by
        simp only [List.mem_cons, List.mem_singleton, List.not_mem_nil, or_false] at hv7
        rcases hv7 with rfl | rfl | rfl | rfl | rfl
        · exact ⟨0, by omega, rfl⟩
        · exact ⟨0, by omega, rfl⟩
        · exact ⟨1, by omega, rfl⟩
        · exact ⟨2, by omega, rfl⟩
        · exact ⟨3, by omega, rfl⟩
      have mu7 := mu2.kept six k7 b7
      clear mu mu2 k7 b7 hv7 hl2
      refine ⟨(j1 : Nat), rfl, by omega, by omega, ?_⟩
      rw [Int.toNat_natCast]
      refine for_it (walk_range (lo := 0) (n := j1)) (fun j σ G => ∃ (Z1 : Hp) (x8 x9 x10 x11 : Option V) (y : Str) (im : List Mk) (xa : List V), σ = [some (.ref b), some (.ref S), some (.ref fl), some (.ref pl), some (.str nm), some (.ref D), some (.ref la), some (.ref lo), x8, x9, x10, x11] ∧
        Mu H b fl pl D la lo xf xp (c + 1 + 12 * (i : Nat) + 1 + 1 + j) Z1 y xa [] G ∧ Same Z Z1 ∧ A2 (RPr Z1) xa im ∧ PgS y im [] ∧ y.length ≤ 4 + 20 * j ∧ im.length = j)
        ⟨Z, x8, x9, x10, x11, x, [], [], rfl, mu7.le (by omega), fun _ _ e => e, .nil, pg0, by omega, rfl⟩ (fun _ _ _ _ _ => True.intro) ?_ ?_
      · rintro j v σ G0 G hj ⟨Z1, y8, y9, y10, y11, y, im, xa, rfl, m, zz, ra, pg, ly, li⟩ ⟨rfl, rfl⟩
        have gS := m.sm _ _ (zz _ _ zS)
        have nl2 : ((nm6.take n).map V.str).length = n := by rw [List.length_map, nl]
        refine ⟨_, rfl, _, rfl, _, rfl, S, S, _, _, rfl, rfl, gS, gS, by rw [nl2]; exact Nat.le_of_lt (small1000 (by omega)), fun p1 hp1 => ⟨by show 1 ≤ sizeLine; decide, fun l3 hl3 => ?_⟩⟩
        have m1 := m.new (o := .lst ((nm6.take n).map V.str ++ (nm6.take n).map V.str)) hp1
        have p1e : (upd G p1 (.lst ((nm6.take n).map V.str ++ (nm6.take n).map V.str))) p1 = some (.lst ((nm6.take n).map V.str ++ (nm6.take n).map V.str)) := upd_same
        refine ⟨p1, l3, _, _, rfl, rfl, same_new hl3 _ _ p1e, upd_same, ?_, fun p2 hp2 => ?_⟩
        · rw [List.length_append, nl2, List.length_singleton]
          exact Nat.le_of_lt (small1000 (by omega))
        have m2 := m1.new (o := .lst [.str "nofile"]) hl3
        have m3 := m2.new (o := .lst (((nm6.take n).map V.str ++ (nm6.take n).map V.str) ++ [.str "nofile"])) hp2
        refine ⟨b, p2, _, _, rfl, m3.bx, upd_same, m2.bx.ne hp2, ?_, ?_, by omega, fun H8 v k8 b8 hv8 => ?_⟩
        · rw [List.length_append, List.length_singleton]
          omega
        · rw [List.length_append, List.length_append, nl2, List.length_singleton]
          omega
        obtain ⟨ot, hot, rfl⟩ : ∃ ot, isNm ot = true ∧ v = .str ot := by
          have inn : ∀ u ∈ (nm6.take n).map V.str, ∃ ot, isNm ot = true ∧ u = .str ot := fun u hu => by
            obtain ⟨z, hz, rfl⟩ := List.mem_map.mp hu
            exact ⟨z, nm6_nm z (List.mem_of_mem_take hz), rfl⟩
          rcases List.mem_append.mp hv8 with hv8 | hv8
          · rcases List.mem_append.mp hv8 with hv8 | hv8
            · exact inn v hv8
            · exact inn v hv8
          · rw [List.mem_singleton] at hv8
            exact ⟨_, no_nm, hv8⟩
        have m4 := m3.kept six k8 b8
        clear m3 m2 m1 k8 b8 hv8 hp2 hl3 p1e hp1 gS
        have lo12 := isNm_lt hot
        have li6 : ("\x69mport" : Str).length = 6 := by decide +kernel
        refine ⟨_, rfl, D, y, "\x69mport", rfl, m4.pg, by omega, fun H9 k9 p9 => ?_⟩
        have m5 := m4.put six k9 p9
        clear m4 k9 p9
        refine ⟨_, rfl, .inl ⟨rfl, _, SqL.of m5.ga⟩, ?_⟩
        refine ⟨_, rfl, _, rfl, D, _, ot, rfl, m5.pg, by rw [len_put]; omega, fun H10 k10 p10 => ⟨_, rfl, by show 2 ≤ sizeLine; decide, fun T hT => ?_⟩⟩
        have m6 := m5.put six k10 p10
        have m7 := m6.frz (o := .tup [.int (y ++ "\x69mport" ++ " ").length, .str ot]) hT
        refine ⟨la, xa, .ref T, rfl, rfl, m7.ga, small1000 (by have := ra.len; omega), ?_⟩
        have zT := m6.frz_same (o := .tup [.int (y ++ "\x69mport" ++ " ").length, .str ot]) hT
        refine ⟨_, _, _, _, _, _, _, _, rfl, (m7.appA six).le (by omega), fun a o e => zT _ _ (zz _ _ e), (ra.imp fun _ _ x => x.same zT).snoc ⟨T, rfl, upd_same⟩, pg.imp hot, ?_, ?_⟩
        · rw [len_put, len_put]
          omega
        · rw [List.length_append, li]
          rfl
      rintro σ G ⟨Z1, y8, y9, y10, y11, y, im, xa, rfl, m, zz, ra, pg, ly, li⟩
      -- what it has of its own
      refine ⟨_, rfl, by show 4 ≤ sizeLine; decide, fun l2 hl2 => ?_⟩
      have mu2 := m.new (o := .lst [.int 0, .int 1, .int 1, .int 2]) hl2
      refine ⟨b, l2, [.int 0, .int 1, .int 1, .int 2], _, rfl, mu2.bx, upd_same, m.bx.ne hl2, by decide, by decide, by omega, fun H8 v k8 b8 hv8 => ?_⟩
      obtain ⟨j2, hj2, rfl⟩ : ∃ j : Nat, j ≤ 2 ∧ v = .int (j : Nat) := by
        simp only [List.mem_cons, List.mem_singleton, List.not_mem_nil, or_false] at hv8
        rcases hv8 with rfl | rfl | rfl | rfl
        · exact ⟨0, by omega, rfl⟩
        · exact ⟨1, by omega, rfl⟩
        · exact ⟨1, by omega, rfl⟩
        · exact ⟨2, by omega, rfl⟩
      have m8 := mu2.kept six k8 b8
      clear m mu2 k8 b8 hv8 hl2
      refine ⟨(j2 : Nat), rfl, by omega, by omega, ?_⟩
      rw [Int.toNat_natCast]
      refine for_it (walk_range (lo := 0) (n := j2)) (fun j σ G => ∃ (Z2 : Hp) (x8 x9 x10 x11 : Option V) (y : Str) (ds : List De) (xo : List V), σ = [some (.ref b), some (.ref S), some (.ref fl), some (.ref pl), some (.str nm), some (.ref D), some (.ref la), some (.ref lo), x8, x9, x10, x11] ∧
        Mu H b fl pl D la lo xf xp (c + 1 + 12 * (i : Nat) + 6 + 3 * j) Z2 y xa xo G ∧ Same Z1 Z2 ∧ A2 (RPr Z2) xo (ds.map De.m) ∧ PgS y im ds ∧ y.length ≤ 64 + 40 * j ∧ ds.length = j)
        ⟨Z1, y8, y9, y10, y11, y, [], [], rfl, m8.le (by omega), fun _ _ e => e, .nil, pg, by omega, rfl⟩ (fun _ _ _ _ _ => True.intro) ?_ ?_
      · rintro j v σ G0 G hj ⟨Z2, z8, z9, z10, z11, z, ds, xo, rfl, m, zz2, ro, pg2, lz, ld⟩ ⟨rfl, rfl⟩
        refine ⟨_, rfl, by show 6 ≤ sizeLine; decide, fun l3 hl3 => ?_⟩
        have m1 := m.new (o := .lst (wd6.map V.str)) hl3
        refine ⟨b, l3, wd6.map V.str, _, rfl, m1.bx, upd_same, m.bx.ne hl3, by decide, by decide, by omega, fun H9 v k9 b9 hv9 => ?_⟩
        obtain ⟨u, hu, rfl⟩ := List.mem_map.mp hv9
        have m2 := m1.kept six k9 b9
        clear m1 k9 b9 hv9 hl3
        refine ⟨_, rfl, _, rfl, by show 3 ≤ sizeLine; decide, fun l4 hl4 => ?_⟩
        have m3 := m2.new (o := .lst [.str "", .str "", .str nm]) hl4
        refine ⟨b, l4, [.str "", .str "", .str nm], _, rfl, m3.bx, upd_same, m2.bx.ne hl4, by show 1 ≤ 3; decide, by show 3 ≤ 1000; decide, by omega, fun H10 v k10 b10 hv10 => ?_⟩
        obtain ⟨sf, hsf, rfl⟩ : ∃ sf ∈ ("" : Str) :: nm6, v = .str sf := by
          simp only [List.mem_cons, List.mem_singleton, List.not_mem_nil, or_false] at hv10
          rcases hv10 with rfl | rfl | rfl
          · exact ⟨_, List.mem_cons_self, rfl⟩
          · exact ⟨_, List.mem_cons_self, rfl⟩
          · exact ⟨_, List.mem_cons_of_mem _ nm_in, rfl⟩
        have m4 := m3.kept six k10 b10
        clear m2 m3 k10 b10 hv10 hl4
        have hwd := wd_nm u hu sf hsf
        have lw := isNm_lt hwd
        refine ⟨u, sf, rfl, rfl, by rw [← len_app]; exact line_le (by omega), ?_⟩
        generalize u ++ sf = wd at hwd lw ⊢
        refine ⟨_, rfl, b, 2, _, rfl, m4.bx, by decide, by decide, by omega, fun H11 r k11 b11 r0 r1 => ?_⟩
        have m5 := m4.kept six k11 b11
        clear m4 k11 b11
        obtain ⟨kw, tl, e1, e2, lk, lt, step⟩ : ∃ kw tl : Str, atI ([.str "template", .str "list"] : List V) r = some (.str kw) ∧ atI ([.str "{ n: 1 }", .str "(n: number) [ ]"] : List V) r = some (.str tl) ∧ kw.length ≤ 8 ∧ tl.length ≤ 15 ∧
            ∀ y ds, PgS y im ds → ∃ d, PgS (y ++ kw ++ " " ++ wd ++ " " ++ tl ++ " ") im (ds ++ [d]) ∧ d.m = ⟨(y ++ kw ++ " ").length, wd⟩ := by
          have r01 : r = 0 ∨ r = 1 := by omega
          rcases r01 with rfl | rfl
          · exact ⟨"template", bodyT, rfl, rfl, by decide +kernel, by decide +kernel, fun y ds h => h.tmp hwd⟩
          · exact ⟨"list", goodsT, rfl, rfl, by decide +kernel, by decide +kernel, fun y ds h => h.lst hwd⟩
        obtain ⟨d, pg3, ed⟩ := step z ds pg2
        refine ⟨_, rfl, by show 2 ≤ sizeLine; decide, fun l5 hl5 => ⟨_, rfl, l5, _, r, _, rfl, rfl, SqL.of upd_same, e1, ?_⟩⟩
        have m6 := m5.new (o := .lst [.str "template", .str "list"]) hl5
        refine ⟨D, z, kw, rfl, m6.pg, by omega, fun H12 k12 p12 => ?_⟩
        have m7 := m6.put six k12 p12
        clear m5 m6 k12 p12 hl5
        refine ⟨_, rfl, .inl ⟨rfl, _, SqL.of m7.go⟩, ?_⟩
        refine ⟨_, rfl, _, rfl, D, _, wd, rfl, m7.pg, by rw [len_put]; omega, fun H13 k13 p13 => ⟨_, rfl, by show 2 ≤ sizeLine; decide, fun T hT => ?_⟩⟩
        have m8 := m7.put six k13 p13
        have m9 := m8.frz (o := .tup [.int (z ++ kw ++ " ").length, .str wd]) hT
        refine ⟨lo, xo, .ref T, rfl, rfl, m9.go, small1000 (by have := ro.len; rw [List.length_map] at this; omega), ?_⟩
        have zT := m8.frz_same (o := .tup [.int (z ++ kw ++ " ").length, .str wd]) hT
        have m10 := m9.appO six (ys := xo ++ [.ref T])
        have eT : (upd Z2 T (.tup [.int (z ++ kw ++ " ").length, .str wd])) T = some (.tup [.int (z ++ kw ++ " ").length, .str wd]) := upd_same
        clear m7 m8 m9 k13 p13 hT
        generalize upd Z2 T (.tup [.int (z ++ kw ++ " ").length, .str wd]) = Z3 at m10 zT eT ⊢
        generalize upd _ lo (.lst (xo ++ [.ref T])) = G3 at m10 ⊢
        refine ⟨_, rfl, by show 2 ≤ sizeLine; decide, fun l6 hl6 => ⟨_, rfl, l6, _, r, _, rfl, rfl, SqL.of upd_same, e2, ?_⟩⟩
        have m11 := m10.new (o := .lst [.str "{ n: 1 }", .str "(n: number) [ ]"]) hl6
        refine ⟨D, _, tl, rfl, m11.pg, by rw [len_put, len_put]; omega, fun H14 k14 p14 => ?_⟩
        have m12 := m11.put six k14 p14
        refine ⟨Z3, _, _, _, _, _, ds ++ [d], xo ++ [.ref T], rfl, m12.le (by omega), fun a o e => zT _ _ (zz2 _ _ e), ?_, pg3, ?_, ?_⟩
        · rw [List.map_append]
          refine (ro.imp fun _ _ x => x.same zT).snoc ⟨T, rfl, ?_⟩
          rw [ed]
          exact eT
        · rw [len_put, len_put, len_put]
          omega
        · rw [List.length_append, ld]
          rfl
      rintro σ G ⟨Z2, z8, z9, z10, z11, z, ds, xo, rfl, m, zz2, ro, pg2, lz, ld⟩
      have lr : rs.length ≤ 6 := by
        have e := congrArg List.length nms
        rw [List.length_map, List.length_take, List.length_take] at e
        have : nm6.length = 6 := rfl
        omega
      have lf : xf.length = rs.length := by rw [rf.len, List.length_map]
      have lp : xp.length = rs.length := by rw [rp.len, List.length_map]
      refine ⟨_, rfl, .inl ⟨rfl, _, SqL.of m.gf⟩, _, rfl, _, rfl, _, rfl, by show 3 ≤ sizeLine; decide, fun T1 hT1 => ?_⟩
      have mT1 := m.frz (o := .tup [.str nm, .ref la, .ref lo]) hT1
      refine ⟨fl, xf, .ref T1, rfl, rfl, mT1.gf, small1000 (by omega), ?_⟩
      have n1f : T1 ≠ fl := (ne_of_none m.gf hT1).symm
      have n1p : T1 ≠ pl := (ne_of_none m.gp hT1).symm
      have n1b := m.bx.ne hT1
      have n1D : T1 ≠ D := (ne_of_none m.pg hT1).symm
      have n1a : T1 ≠ la := (ne_of_none m.ga hT1).symm
      have n1o : T1 ≠ lo := (ne_of_none m.go hT1).symm
      have zT1 := m.frz_same (o := .tup [.str nm, .ref la, .ref lo]) hT1
      have eT1 : (upd Z2 T1 (.tup [.str nm, .ref la, .ref lo])) T1 = some (.tup [.str nm, .ref la, .ref lo]) := upd_same
      generalize upd Z2 T1 (.tup [.str nm, .ref la, .ref lo]) = Z3 at mT1 zT1 eT1 ⊢
      generalize upd G T1 (.tup [.str nm, .ref la, .ref lo]) = G1 at mT1 ⊢
      clear m hT1
      -- the heap with found written
      have hfH2 := hfH
      have bF : But fl G1 (upd G1 fl (.lst (xf ++ [.ref T1]))) := But.upd
      have eF : (upd G1 fl (.lst (xf ++ [.ref T1]))) fl = some (.lst (xf ++ [.ref T1])) := upd_same
      generalize upd G1 fl (.lst (xf ++ [.ref T1])) = G2 at bF eF ⊢
      have gp2 : G2 pl = some (.lst xp) := (bF _ nfp.symm).trans mT1.gp
      refine ⟨_, rfl, .inl ⟨rfl, _, SqL.of gp2⟩, _, rfl, _, rfl, D, .str z, rfl, .inl ⟨_, .inr "page", .inl ((bF _ six.Df).trans mT1.pg), rfl, (valV_pos (p := ((Sum.inr "page" : Key), V.str z)) rfl).symm⟩, by show 2 ≤ sizeLine; decide, fun T2 hT2 => ?_⟩
      have n2 : ∀ a o, G1 a = some o → T2 ≠ a := fun a o e => by
        rintro rfl
        by_cases h : T2 = fl
        · subst h
          rw [eF] at hT2
          cases hT2
        · rw [bF _ h, e] at hT2
          cases hT2
      refine ⟨pl, xp, .ref T2, rfl, rfl, same_new hT2 _ _ gp2, small1000 (by omega), ?_⟩
      have z2 : ∀ a o, Z3 a = some o → T2 ≠ a := fun a o e => n2 a o (mT1.sm _ _ e)
      have zT2 : Z3 T2 = none := by
        cases h : Z3 T2 with
        | none => rfl
        | some o => exact absurd rfl (z2 _ _ h)
      have n2b : T2 ≠ b := by
        obtain ⟨_, _, _, h, _⟩ := mT1.bx
        exact n2 _ _ h
      have s3 : Same Z3 (upd (upd (upd Z3 la (.lst xa)) lo (.lst xo)) T2 (.tup [.str nm, .str z])) := fun a o e => by
        rw [upd_ne (ne_of_none e zT2), upd_ne (ne_of_none e mT1.zo), upd_ne (ne_of_none e mT1.za)]
        exact e
      have s0 : Same Z (upd (upd (upd Z3 la (.lst xa)) lo (.lst xo)) T2 (.tup [.str nm, .str z])) := fun a o e => s3 _ _ (zT1 _ _ (zz2 _ _ (zz _ _ e)))
      have s1 : Same Z1 (upd (upd (upd Z3 la (.lst xa)) lo (.lst xo)) T2 (.tup [.str nm, .str z])) := fun a o e => s3 _ _ (zT1 _ _ (zz2 _ _ e))
      have n2a : T2 ≠ la := n2 _ _ mT1.ga
      have n2o : T2 ≠ lo := n2 _ _ mT1.go
      have n2p : T2 ≠ pl := n2 _ _ mT1.gp
      have n2f : T2 ≠ fl := n2 _ _ mT1.gf
      refine ⟨upd (upd (upd Z3 la (.lst xa)) lo (.lst xo)) T2 (.tup [.str nm, .str z]), _, _, _, _, _, _, _, _, xf ++ [.ref T1], xp ++ [.ref T2], rs ++ [(z, ⟨nm, im, ds⟩)], rfl, ?_, ?_, ?_, s0 _ _ zS, ?_, ?_, ?_, ?_, upd_same, ?_, ?_, ?_, ?_⟩
      · intro a o e n
        by_cases h : a = pl
        · subst h
          rw [hpH] at e
          cases e
        · rw [upd_ne h]
          refine same_new hT2 _ _ ?_
          rw [bF _ (fun z => by
            subst z
            rw [hfH] at e
            cases e)]
          exact mT1.kp _ _ e n
      · exact (((mT1.bx.but bF nflb).off n2b).off nplb).le (by omega)
      · have sZ : Same Z3 (upd (upd G2 T2 (.tup [.str nm, .str z])) pl (.lst (xp ++ [.ref T2]))) := still_put (still_new (still_but mT1.sm mT1.zf bF) hT2) mT1.zp
        refine still_more (still_more (still_more sZ ?_) ?_) ?_
        · rw [upd_ne six.ap, upd_ne n2a.symm, bF _ six.af]
          exact mT1.ga
        · rw [upd_ne six.op, upd_ne n2o.symm, bF _ six.of]
          exact mT1.go
        · rw [upd_ne n2p, upd_same]
      · rw [upd_ne n2b.symm, upd_ne six.ob.symm, upd_ne six.ab.symm]
        exact mT1.zb
      · rw [upd_ne n2f.symm, upd_ne six.of.symm, upd_ne six.af.symm]
        exact mT1.zf
      · rw [upd_ne n2p.symm, upd_ne six.op.symm, upd_ne six.ap.symm]
        exact mT1.zp
      · rw [upd_ne nfp]
        exact same_new hT2 _ _ eF
      · rw [List.map_append]
        refine (rf.imp fun _ _ x => x.same s0).snoc ⟨T1, la, lo, xa, xo, rfl, s3 _ _ eT1, ?_, ra.imp fun _ _ x => x.same s1, ?_, ro.imp fun _ _ x => x.same fun a o e => s3 _ _ (zT1 _ _ e)⟩
        · rw [upd_ne n2a.symm, upd_ne six.oa.symm, upd_same]
        · rw [upd_ne n2o.symm, upd_same]
      · rw [List.map_append]
        exact (rp.imp fun _ _ x => x.same s0).snoc ⟨T2, rfl, upd_same⟩
      · intro r hr
        rcases List.mem_append.mp hr with hr | hr
        · exact ok r hr
        · rw [List.mem_singleton] at hr
          subst hr
          exact ⟨pg2, by show z.length ≤ 1000; omega, by show im.length ≤ 3; omega, by show ds.length ≤ 2; omega⟩
      · rw [List.map_append, nms, List.take_add_one, hnm]
        rfl
    · rintro σ G ⟨Z, x4, x5, x6, x7, x8, x9, x10, x11, xf, xp, rs, rfl, kp, bx, sm, zS, zb, zf, zp, gf, gp, rf, rp, ok, nms⟩
      rw [List.length_map, nl, List.take_of_length_le (Nat.le_of_eq nl)] at nms
      rw [List.length_map, nl] at bx
      refine ⟨_, rfl, _, rfl, by show 2 ≤ sizeLine; decide, fun T hT => ?_⟩
      have nTb := bx.ne hT
      have nTf : T ≠ fl := (ne_of_none gf hT).symm
      have nTp : T ≠ pl := (ne_of_none gp hT).symm
      have zT : Z T = none := new_of sm hT
      have s1 : Same Z (upd (upd (upd Z fl (.lst xf)) pl (.lst xp)) T (.tup [.ref fl, .ref pl])) := fun a o e => by
        rw [upd_ne (ne_of_none e zT), upd_ne (ne_of_none e zp), upd_ne (ne_of_none e zf)]
        exact e
      refine q _ (upd (upd (upd Z fl (.lst xf)) pl (.lst xp)) T (.tup [.ref fl, .ref pl])) T fl pl xf xp rs n (kp.trans fun a o e _ => same_new hT _ _ e) ((bx.off nTb).le (by omega)) ?_ ?_ upd_same ?_ ?_ (rf.imp fun _ _ x => x.same s1) (rp.imp fun _ _ x => x.same s1) k1' kk ⟨ok, nms⟩
      · exact still_more (still_more (still_more (still_new sm hT) (same_new hT _ _ gf)) (same_new hT _ _ gp)) upd_same
      · rw [upd_ne nTb.symm, upd_ne nplb.symm, upd_ne nflb.symm]
        exact zb
      · rw [upd_ne nTf.symm, upd_ne nfp, upd_same]
      · rw [upd_ne nTp.symm, upd_same]
end
end V5

set_option maxHeartbeats 2000000
/-! What stays through a turn of the law. -/
namespace V5
open PySem PySem.Spec PyProof.Rows L2 K2 LamX

theorem tab_keep {T : List (Addr × Str)} {H H' : Hp} (t : Tabs T H) (e : ∀ b o, H b = some o → ((∃ ps, o = .tbl ps) ∨ ∃ c q, o = CodeO c q) → H' b = some o) : Tabs T H' := fun p hp => by
  obtain ⟨ps, h1, h2, h3⟩ := t p hp
  refine ⟨ps, e _ _ h1 (.inl ⟨ps, rfl⟩), h2, fun pos cv hc => ?_⟩
  obtain ⟨c, e1, e2⟩ := h3 pos cv hc
  exact ⟨c, e1, e _ _ e2 (.inr ⟨c, _, rfl⟩)⟩
/-- what a turn leaves as it was -/
structure LW (G0 : Hp) (T : List (Addr × Str)) (p : Addr) (c : Int) (G : Hp) : Prop where
  old : ∀ x o, G0 x = some o → stays o = true → (∀ ps, o ≠ .tbl ps) → G x = some o
  tb : Tabs T G
  bx : Box c G p
section
variable {G0 G G' : Hp} {T : List (Addr × Str)} {p : Addr} {c c' : Int}
theorem LW.kept (l : LW G0 T p c G) (n : G0 p = none) (k : Kept p G G') (b : Box c' G' p) : LW G0 T p c' G' := by
  obtain ⟨o, m, j, hb, _⟩ := l.bx
  refine ⟨fun x u e s q => k _ _ (l.old x u e s q) (ne_of_none e n), tab_keep l.tb fun a u e z => k _ _ e ?_, b⟩
  rintro rfl
  rw [hb] at e
  cases e
  rcases z with ⟨_, z⟩ | ⟨_, _, z⟩
  · cases z
  · unfold CodeO at z
    cases z
theorem LW.same (l : LW G0 T p c G) (s : Same G G') : LW G0 T p c G' := by
  obtain ⟨o, m, j, hb, r⟩ := l.bx
  exact ⟨fun x u e t q => s _ _ (l.old x u e t q), l.tb.ext s, o, m, j, s _ _ hb, r⟩
theorem LW.st (l : LW G0 T p c G) (s : St G G') : LW G0 T p c G' := by
  obtain ⟨o, m, j, hb, r⟩ := l.bx
  refine ⟨fun x u e t q => s.at (l.old x u e t q) t, tab_keep l.tb fun a u e z => s.at e ?_, o, m, j, s.at hb rfl, r⟩
  rcases z with ⟨_, rfl⟩ | ⟨_, _, rfl⟩ <;> rfl
theorem LW.extn (l : LW G0 T p c G) (s : ExtN G G') (t : Tabs T G') : LW G0 T p c G' := by
  obtain ⟨o, m, j, hb, r⟩ := l.bx
  exact ⟨fun x u e t q => s _ _ (l.old x u e t q) q, t, o, m, j, s _ _ hb (fun ps z => by cases z), r⟩
theorem LW.le (l : LW G0 T p c G) (h : c ≤ c') : LW G0 T p c' G := ⟨l.old, l.tb, l.bx.le h⟩
end
/-- all but p -/
def offb (p : Addr) (H : Hp) : Hp := fun x => if x = p then none else H x
theorem offb_same (p : Addr) (H : Hp) : Same (offb p H) H := fun x o e => by
  unfold offb at e
  split at e
  · cases e
  · exact e
theorem offb_p (p : Addr) (H : Hp) : offb p H p = none := if_pos rfl
theorem offb_of {p x : Addr} {H : Hp} {o : HO} (n : x ≠ p) (e : H x = some o) : offb p H x = some o := by
  unfold offb
  rw [if_neg n]
  exact e
/-- Z, that does not speak of p, stands in it -/
theorem offb_in {p : Addr} {Z H : Hp} (s : Same Z H) (n : Z p = none) : Same Z (offb p H) := fun x o e => offb_of (ne_of_none e n) (s x o e)
theorem seq_old {K : PySem.W.Frag} {G0 G : Hp} {a : Addr} {xs : List V} (h : SqL K G0 a xs) (e : ∀ x o, G0 x = some o → stays o = true → (∀ ps, o ≠ .tbl ps) → G x = some o) : SqL K G a xs := by
  rcases h with (h | ⟨o, h⟩) | h
  · exact .inl (.inl (e _ _ h rfl (fun ps z => by cases z)))
  · exact .inl (.inr ⟨o, e _ _ h rfl (fun ps z => by cases z)⟩)
  · exact .inr h
end V5

set_option maxHeartbeats 400000
/-! What is told, and what is due. -/
namespace V5
open PySem PySem.Spec PyProof.Rows L2 K2 LamX

/-- what is due -/
def dueR (fs : List Fi) : Option (Str × Str × Nat) := match firstImp (fs.map (·.f)) (fs.map fdOf') with
  | some (f, n) => some (iw, f, n)
  | none => match firstTw (fs.map fdOf') (fs.map fdOf') with
    | some (f, n) => some ("twice", f, n)
    | none => none
def TupV (H : Hp) (v : V) (d : Str × Str × Nat) : Prop := ∃ t, v = .ref t ∧ H t = some (.tup [.str d.1, .str d.2.1, .int (d.2.2 : Nat)])
def DueV (fs : List Fi) (v : V) (H : Hp) : Prop := match dueR fs with
  | some d => TupV H v d
  | none => v = .non
def ToldV (fs : List Fi) (k : Nat) (v : V) (H : Hp) : Prop := match dueR fs with
  | some d => TupV H v d
  | none => ∃ l, v = .ref l ∧ H l = some (.lst [.int (k : Nat)])
theorem dueR_imp {fs : List Fi} {f : Str} {n : Nat} (h : firstImp (fs.map (·.f)) (fs.map fdOf') = some (f, n)) : dueR fs = some (iw, f, n) := by
  unfold dueR
  rw [h]
theorem dueR_tw {fs : List Fi} {f : Str} {n : Nat} (h : firstImp (fs.map (·.f)) (fs.map fdOf') = none) (h2 : firstTw (fs.map fdOf') (fs.map fdOf') = some (f, n)) : dueR fs = some (("twice" : Str), f, n) := by
  unfold dueR
  rw [h, h2]
theorem dueR_none {fs : List Fi} (h : firstImp (fs.map (·.f)) (fs.map fdOf') = none) (h2 : firstTw (fs.map fdOf') (fs.map fdOf') = none) : dueR fs = none := by
  unfold dueR
  rw [h, h2]
section
variable {k : Nat} {rs : List (Str × Fi)}
theorem RowsOk.fnames (ok : RowsOk k rs) : (rs.map (·.2)).map (·.f) = nm6.take k := by
  rw [List.map_map]
  exact ok.nms
theorem RowsOk.len (ok : RowsOk k rs) (k6 : k ≤ 6) : rs.length = k := by
  have e := congrArg List.length ok.nms
  rw [List.length_map, List.length_take] at e
  have : nm6.length = 6 := rfl
  omega
theorem fd_names (fs : List Fi) : (fs.map fdOf').map (·.n) = fs.map (·.f) := by
  rw [List.map_map]
  rfl
theorem due_as {fl : Addr} {xf : List V} {H : Hp} {Q : VK} (ok : RowsOk k rs) (k6 : k ≤ 6) (hfl : H fl = some (.lst xf)) (rf : A2 (RFd H) xf (rs.map fun r => fdOf' r.2)) (q : ∀ v H2, Same H H2 → DueV (rs.map (·.2)) v H2 → Q v H2) : spDue [.ref fl] H Q E0 := by
  have e : (rs.map fun r => fdOf' r.2) = (rs.map (·.2)).map fdOf' := by rw [List.map_map]; rfl
  rw [e] at rf
  refine ⟨fl, xf, (rs.map (·.2)).map fdOf', rfl, hfl, rf, ?_, ?_, ?_, ?_, ?_, ?_⟩
  · rw [List.length_map, List.length_map, ok.len k6]
    exact k6
  · intro d hd
    obtain ⟨f, hf, rfl⟩ := List.mem_map.mp hd
    obtain ⟨r, hr, rfl⟩ := List.mem_map.mp hf
    have := ok.all r hr
    have h1 := this.im
    have h2 := this.ds
    refine ⟨by show r.2.im.length ≤ 20; omega, ?_⟩
    show (r.2.ds.map De.m).length ≤ 20
    rw [List.length_map]
    omega
  · rw [fd_names, ok.fnames]
    exact nm6_nd k
  · intro f n h H2 t s ht
    rw [fd_names] at h
    refine q _ H2 s ?_
    unfold DueV
    rw [dueR_imp h]
    exact ⟨t, rfl, ht⟩
  · intro h f n h2 H2 t s ht
    rw [fd_names] at h
    refine q _ H2 s ?_
    unfold DueV
    rw [dueR_tw h h2]
    exact ⟨t, rfl, ht⟩
  · intro h h2 H2 s
    rw [fd_names] at h
    refine q _ H2 s ?_
    unfold DueV
    rw [dueR_none h h2]
theorem RowOk.page {r : Str × Fi} (h : RowOk r) : Page (r.2.f, r.1) r.2 := by
  obtain ⟨x, ⟨f, im, ds⟩⟩ := r
  have h1 := h.len
  have h2 := h.im
  have h3 := h.ds
  dsimp only at h1 h2 h3
  exact h.pg.page (Nat.le_trans h1 (by decide)) (Nat.le_trans h2 (by decide)) (Nat.le_trans h3 (by decide))
theorem pages_of : ∀ {rs : List (Str × Fi)}, (∀ r ∈ rs, RowOk r) → A2 Page (rs.map fun r => (r.2.f, r.1)) (rs.map (·.2))
  | [], _ => .nil
  | r :: rs, h => .cons (h r List.mem_cons_self).page (pages_of fun q hq => h q (List.mem_cons_of_mem _ hq))
theorem RowsOk.good (ok : RowsOk k rs) (k6 : k ≤ 6) : Good (rs.map (·.2)) := by
  refine ⟨by rw [ok.fnames]; exact nm6_nd k, fun f hf => ?_, fun f hf d hd => ?_, fun f hf d hd => ?_, by rw [List.length_map, ok.len k6]; exact k6⟩
  · obtain ⟨r, hr, rfl⟩ := List.mem_map.mp hf
    have h2 := (ok.all r hr).im
    have h3 := (ok.all r hr).ds
    exact ⟨by omega, by omega⟩
  · obtain ⟨r, hr, rfl⟩ := List.mem_map.mp hf
    exact (ok.all r hr).pg.pl d hd
  · obtain ⟨r, hr, rfl⟩ := List.mem_map.mp hf
    exact (ok.all r hr).pg.nm d hd
theorem RowsOk.imp (ok : RowsOk k rs) : firstImp ((rs.map (·.2)).map (·.f)) ((rs.map (·.2)).map fdOf') = dueF (rs.map (·.2)) ((rs.map (·.2)).map (impF (rs.map (·.2)))) := by
  refine imp_due _ _ fun f hf => ?_
  obtain ⟨r, hr, rfl⟩ := List.mem_map.mp hf
  exact (ok.all r hr).pg.asc
theorem firstImp_mem (names : List Str) {f : Str} {n : Nat} : ∀ {ds : List Fd}, firstImp names ds = some (f, n) → f ∈ ds.map (·.n)
  | d :: r, h => by
    unfold firstImp at h
    cases e : impL names [d.n] d.a with
    | some i =>
      rw [e] at h
      cases h
      exact List.mem_map_of_mem List.mem_cons_self
    | none =>
      rw [e] at h
      have := firstImp_mem names (ds := r) h
      rw [List.map_cons]
      exact List.mem_cons_of_mem _ this
theorem firstTw_mem (all : List Fd) {f : Str} {n : Nat} : ∀ {ds : List Fd}, firstTw all ds = some (f, n) → f ∈ ds.map (·.n)
  | d :: r, h => by
    unfold firstTw at h
    split at h
    · have := firstTw_mem all (ds := r) h
      rw [List.map_cons]
      exact List.mem_cons_of_mem _ this
    · cases h
      exact List.mem_map_of_mem List.mem_cons_self
theorem ok_iw : PyData.strOk iw = true := by decide +kernel
theorem ok_tw : PyData.strOk ("twice" : Str) = true := by decide +kernel
theorem ok_nm : ∀ f ∈ nm6, PyData.strOk f = true := by decide +kernel
theorem RowsOk.due_str (ok : RowsOk k rs) {d : Str × Str × Nat} (h : dueR (rs.map (·.2)) = some d) : PyData.strOk d.1 = true ∧ PyData.strOk d.2.1 = true := by
  have nm : ∀ f ∈ ((rs.map (·.2)).map fdOf').map (·.n), PyData.strOk f = true := fun f hf => by
    rw [fd_names, ok.fnames] at hf
    exact ok_nm f (List.mem_of_mem_take hf)
  unfold dueR at h
  cases e : firstImp ((rs.map (·.2)).map (·.f)) ((rs.map (·.2)).map fdOf') with
  | some p =>
    obtain ⟨f, n⟩ := p
    rw [e] at h
    cases h
    exact ⟨ok_iw, nm _ (firstImp_mem _ e)⟩
  | none =>
    rw [e] at h
    cases e2 : firstTw ((rs.map (·.2)).map fdOf') ((rs.map (·.2)).map fdOf') with
    | some p =>
      obtain ⟨f, n⟩ := p
      rw [e2] at h
      cases h
      exact ⟨ok_tw, nm _ (firstTw_mem _ e2)⟩
    | none =>
      rw [e2] at h
      cases h
def tupDat (d : Str × Str × Nat) : PyData := .tuple [.str d.1, .str d.2.1, .int (d.2.2 : Nat)]
theorem tupDat_ok {d : Str × Str × Nat} (h : PyData.strOk d.1 = true ∧ PyData.strOk d.2.1 = true) : SeqAt.shaped (tupDat d) = true := by
  unfold SeqAt.shaped tupDat
  simp only [PyData.canLay0, PyData.canLayAll0, PyData.depth, PyData.depthAll, h.1, h.2]
  rfl
theorem tupDat_dp {K : PySem.W.Frag} {H : Hp} {t : Addr} {d : Str × Str × Nat} (h : H t = some (.tup [.str d.1, .str d.2.1, .int (d.2.2 : Nat)])) : Dp K H (.ref t) (tupDat d) :=
  .tup (SqT.of h) (.cons (.str _) (.cons (.str _) (.cons (.int _) .nil)))
theorem perm_of {H : Hp} {xs : List V} {pg : List (Str × Str)} (h : A2 (RPg H) xs pg ∨ A2 (RPg H) xs pg.reverse) : ∃ ps, A2 (RPg H) xs ps ∧ pg.Perm ps := by
  rcases h with h | h
  · exact ⟨pg, h, .refl _⟩
  · exact ⟨_, h, (List.reverse_perm pg).symm⟩
theorem proj_told {K : PySem.W.Frag} {Hx : Hp} {σ : L2.St} {F : Addr} {xs : List V} (hσ : σ[7]? = some (some (.ref F))) (hF : Hx F = some (.tup xs)) (ok : RowsOk k rs) (k1 : 1 ≤ k) (k6 : k ≤ 6)
    (hx : A2 (RPg Hx) xs (rs.map fun r => (r.2.f, r.1)) ∨ A2 (RPg Hx) xs (rs.map fun r => (r.2.f, r.1)).reverse) {Q : VK} (q : ∀ v H', St Hx H' → ToldV (rs.map (·.2)) k v H' → Q v H') : tellErr K (fun E H' Q' => tAsk K E σ H' Q') Hx Q := by
  intro H0 s0 E Q0 hE hQ
  refine ⟨F, hσ, fun x dx hxN hdx ne => ?_⟩
  have sm : Same H0 (upd (upd H0 dx (.own x)) x (.ins (cPro K) dx [])) := fun b o e => by
    rw [upd_ne (ne_of_none e hxN), upd_ne (ne_of_none e hdx)]
    exact e
  obtain ⟨ps, rp, pm⟩ := perm_of hx
  have lr := ok.len k6
  have lp : ps.length = k := by rw [← pm.length_eq, List.length_map, lr]
  have en : (rs.map fun r => (r.2.f, r.1)).map (·.1) = nm6.take k := by
    rw [List.map_map]
    exact ok.nms
  have memP : ∀ p ∈ ps, ∃ r ∈ rs, p = (r.2.f, r.1) := fun p hp => by
    obtain ⟨r, hr, e⟩ := List.mem_map.mp (pm.mem_iff.mpr hp)
    exact ⟨r, hr, e.symm⟩
  refine ⟨H0, x, dx, F, xs, ps, rs.map fun r => (r.2.f, r.1), rs.map (·.2), rfl, upd_same, sm, hxN, s0 _ _ hF, rp.imp fun _ _ ⟨T, e, h⟩ => ⟨T, e, s0 _ _ h⟩, by omega, by omega, fun p hp => ?_, ?_, pm, ?_, pages_of ok.all, ok.good k6, fun f n due d H' s hd => ?_, fun n1 f n due d H' s hd => ?_, fun n1 n2 H' T ys rest s hp hT ly => ?_⟩
  · obtain ⟨r, hr, rfl⟩ := memP p hp
    have h1 := (ok.all r hr).len
    refine (ok.all r hr).pg.file (by omega) ?_
    have : r.2.f ∈ nm6.take k := by
      rw [← ok.nms]
      exact List.mem_map_of_mem hr
    exact nm6_nm _ (List.mem_of_mem_take this)
  · rw [← (pm.map (·.1)).nodup_iff, en]
    exact nm6_nd k
  · have := List.Pairwise.sublist (List.take_sublist k nm6) nm6_asc
    rw [← en] at this
    exact List.pairwise_map.mp this
  · rw [← ok.imp] at due
    refine hE _ _ _ ⟨rfl, d, _, .str iw, .str f, .int (n : Nat), rfl, hd, rfl, rfl, rfl, fun H2 t s2 ht => q _ _ (((St.same s0).trans s).trans (St.same s2)) ?_⟩
    unfold ToldV
    rw [dueR_imp due]
    exact ⟨t, rfl, ht⟩
  · rw [← ok.imp] at n1
    rw [← tw_due] at due
    refine hE _ _ _ ⟨rfl, d, _, .str "twice", .str f, .int (n : Nat), rfl, hd, rfl, rfl, rfl, fun H2 t s2 ht => q _ _ (((St.same s0).trans s).trans (St.same s2)) ?_⟩
    unfold ToldV
    rw [dueR_tw n1 due]
    exact ⟨t, rfl, ht⟩
  · rw [← ok.imp] at n1
    rw [← tw_due] at n2
    refine ⟨rfl, x, dx, _, rfl, hp, x, dx, T, ys, rest, rfl, hp, hT, ys.length, rfl, by rw [ly]; omega, hQ _ _ fun l hl => q _ _ (((St.same s0).trans s).trans (St.same (same_new hl))) ?_⟩
    unfold ToldV
    rw [dueR_none n1 n2]
    refine ⟨l, rfl, ?_⟩
    rw [upd_same, ly, lp]
end
end V5

set_option maxHeartbeats 2000000
/-! The law. -/
namespace V5
open PySem PySem.Spec PyProof.Rows L2 K2 LamX

def lawQ : Str := (Str.ofString "law" ++ Str.ofString ".<locals>.") ++ Str.ofString "<lambda>"
abbrev tabP (K : PySem.W.Frag) : Addr := (He.cT K ("law", none)).2
def spLaw (K : PySem.W.Frag) : Sp := fun vs H Q _ => ∃ (a : Addr) (ns : List Int), vs = [.ref a] ∧ SqL K H a (ns.map V.int) ∧ ns.length ≤ 63 ∧ H (tabP K) = some (.tbl #[]) ∧ ∀ H', Q (.bl true) H'
theorem qual_is {P : Program} {w : World} {K : PySem.W.Frag} {mg : Str → Option Value} {base : Heap} {N : List Str} {q : Str} {sc : Scope} {f : Addr} {cdv : Value} {A : Around} {outer : List PySem.Env} {s : Shared} {H : Hp} {E : XK} : (cxOf CX0 P w K mg base N q sc f cdv A outer s H E).nox.env.qual = q ++ Str.ofString ".<locals>." := rfl
section
variable {P : Program} {w : World} {K : PySem.W.Frag} {mg : Str → Option Value} {base : Heap}
theorem ok_law (E : Env K mg) (TB : TabB base mg (He.cT K ("law", none)).1 (tabP K)) : FnOk P w K mg base CX0 18 (f_law K) (fd_law K) ["_law_script"] (spLaw K) := by
  obtain ⟨oc, od, kV, doc, pm, an, cdv, ct, osl, hfd, lk, hcd⟩ := E.F_law.ex
  obtain ⟨c, rfl⟩ := He.codeIn_ref hcd
  have ec : (He.cT K ("law", none)).1 = c := He.codeOf_eq lk (by rw [hfd])
  rw [ec] at TB
  generalize hP : tabP K = tP at TB
  rw [hfd] at lk ⊢
  refine fn_of lk hcd sc_law (fun vs H Q E h => ?_) fun A outer s H vs Q E1 hr h => ?_
  · obtain ⟨a, ns, rfl, _⟩ := h
    rfl
  · obtain ⟨a, ns, rfl, hS, hl, ht, q⟩ := h
    rw [hP] at ht
    have nd := sc_law.nd
    have GX : FnOk P w K mg base CX0 1 (f__law_box K) (fd__law_box K) ["_law_script", "_law_k"] (spBox K) := ok_box E.F__law_box E.bare
    have GT : FnOk P w K mg base CX0 1 (f__law_take K) (fd__law_take K) ["_law_box_here", "_law_many"] spTake := ok_take E.F__law_take
    have GF : FnOk P w K mg base CX0 3 (f__law_files K) (fd__law_files K) ["_law_box_here"] spFiles := ok_files E
    have GD : FnOk P w K mg base CX0 1 (f__law_due K) (fd__law_due K) ["_law_found"] spDue := ok_due E
    obtain ⟨oc2, od2, kV2, doc2, pm2, an2, cdv2, ct2, osl2, hfd2, lk2, hcd2⟩ := E.F__law_error.ex
    have hb2 := E.D__law_error.b
    rw [hfd2] at lk2 hb2
    have hmT : (tP, lawQ) ∈ [(tP, lawQ)] := List.mem_singleton.mpr rfl
    have hu : ∀ p ∈ [(tP, lawQ)], p.1 = tP → p.2 = lawQ := fun p hp _ => by rw [List.mem_singleton.mp hp]
    refine Exists.imp (fun t (h : PSs (cxOf CX0 P w K mg base _ "law" (defScope s_law) (f_law K) (.ref c) A outer s H E1).nox (defBody s_law) t ∧ t { nx := fun _ H' => Q .non H', rt := Q } (L2.start _ [.ref a]) H) => ⟨h.1.nox, h.2⟩) ?_
    refine ⟨_, pss_cons (ps_for PassesOwn.never rfl (pi_range1 (by rfl) E.u_range (pa_cons (pe_callB (call_max2 rfl) (by rfl) E.u_max (by decide +kernel) (pa_cons pe_int
          (pa_cons (pe_callB (call_min2 rfl) (by rfl) E.u_min (by decide +kernel) (pa_cons pe_int (pa_cons (pe_callB call_len_seq (by rfl) E.u_len PySem.boot_len (pa_cons (pv 0) pa_nil)) pa_nil))) pa_nil))) pa_nil))
          (pg_name (i := 1) nd rfl (Or.inl rfl))
        (pss_cons (ps_set (i := 2) nd rfl (.inl rfl) (pe_call GX (hr.mono (by decide)) (by rfl) E.D__law_box.g E.D__law_box.k E.D__law_box.b .nil pass0 (pa_cons (pv 0) (pa_cons (pv 1) pa_nil))))
        <| pss_one (ps_for PassesOwn.never rfl (pi_range1 (by rfl) E.u_range (pa_cons pe_int pa_nil)) (pg_name (i := 3) nd rfl (Or.inl rfl))
          (pss_cons (ps_asg (pe_call GF (hr.mono (by decide)) (by rfl) E.D__law_files.g E.D__law_files.k E.D__law_files.b .nil pass0 (pa_cons (pv 2) pa_nil)) (pg_tup rfl (pgs_cons (pg_name (i := 4) nd rfl (.inl rfl)) (pgs_cons (pg_name (i := 5) nd rfl (.inl rfl)) pgs_nil))))
          <| pss_cons (ps_asg (pe_tup (pa_cons (pe_call GD (hr.mono (by decide)) (by rfl) E.D__law_due.g E.D__law_due.k E.D__law_due.b .nil pass0 (pa_cons (pv 4) pa_nil))
                (pa_cons (pe_tupleOf (by rfl) E.u_tuple (pe_ifExp (pt_cmpR op_eq (pe_call GT (hr.mono (by decide)) (by rfl) E.D__law_take.g E.D__law_take.k E.D__law_take.b .nil pass0 (pa_cons (pv 2) (pa_cons pe_int pa_nil))) pe_int (nomark _)) (pe_revL (pv 5)) (pv 5))) pa_nil)))
              (pg_tup rfl (pgs_cons (pg_name (i := 6) nd rfl (.inl rfl)) (pgs_cons (pg_name (i := 7) nd rfl (.inr rfl)) pgs_nil))))
          <| pss_cons (ps_set (i := 8) nd rfl (.inl rfl) (pe_lamcall (T := [(tP, lawQ)]) (k := 15) (a := "_law_ask") (t := fun E1 => tAsk K E1) (by rfl) E.D__law_error.g E.D__law_error.k lk2 hcd2 hb2 sc__law_error rfl (.inl rfl) (gives_error E)
              TB rfl ?hmT ?hu (hr.mono (by decide)) (lamS_by (show lamSB (defScope s_law) _ = true from by decide +kernel)) rfl (fun _ _ _ _ _ => rfl) (fun A outer s H E1 f c' hr2 => pe_ask E rfl hr2 rfl rfl (.inr (.inr rfl)))))
          <| pss_one (ps_if (pt_cmpR (op_neD hr.units) (pv 8) (pe_ifExp (pt_cmpR op_notN (pv 6) pe_non (nomark _)) (pv 6) (pe_lst (pa_cons (pe_callB call_len_seq (by rfl) E.u_len PySem.boot_len (pa_cons (pv 5) pa_nil)) pa_nil))) (nomark _))
              (pss_one ps_never) pss_nil)))))
      <| pss_one (ps_ret pe_bl), ?rd⟩
    case hmT =>
      rw [qual_is]
      unfold lawQ
      exact List.mem_singleton.mpr rfl
    case hu =>
      intro p hp _
      rw [List.mem_singleton.mp hp, qual_is]
      unfold lawQ
      rfl
    have tb0 : Tabs [(tP, lawQ)] H := fun p hp => by
      rw [List.mem_singleton.mp hp]
      exact .nil ht
    refine ⟨.ref a, rfl, a, _, rfl, .inl hS, _, _, rfl, _, _, rfl, _, rfl, ?_⟩
    rw [List.length_map]
    generalize hn : (if (if (ns.length : Int) < 3 then (ns.length : Int) else 3) > 1 then (if (ns.length : Int) < 3 then (ns.length : Int) else 3) else 1) = n
    have n0 : 1 ≤ n ∧ n ≤ 3 := by
      rw [← hn]
      split <;> split <;> omega
    refine ⟨by omega, by omega, for_it walk_range (fun i σ G => ∃ x1 x2 x3 x4 x5 x6 x7 x8 : Option V, σ = [some (.ref a), x1, x2, x3, x4, x5, x6, x7, x8] ∧ SqL K G a (ns.map V.int) ∧ Tabs [(tP, lawQ)] G)
      ⟨none, none, none, none, none, none, none, none, rfl, hS, tb0⟩ (fun _ _ _ _ _ => True.intro) ?_ ?_⟩
    · rintro i x σ G0 G hi ⟨x1, x2, x3, x4, x5, x6, x7, x8, rfl, sq, tb⟩ ⟨rfl, rfl⟩
      refine ⟨_, rfl, _, rfl, a, ns, 0 + (i : Int), rfl, sq, by omega, by omega, fun G1 p s1 np bp => ?_⟩
      have l0 : LW G [(tP, lawQ)] p 0 G1 := ⟨fun x o e _ _ => s1 _ _ e, tb.ext s1, bp⟩
      refine ⟨10, rfl, by decide, by decide, for_it (walk_range (lo := 0) (n := 10)) (fun j σ G2 => ∃ x3 x4 x5 x6 x7 x8 : Option V, σ = [some (.ref a), some (.int (0 + (i : Int))), some (.ref p), x3, x4, x5, x6, x7, x8] ∧ LW G [(tP, lawQ)] p (74 * j) G2)
        ⟨x3, x4, x5, x6, x7, x8, rfl, l0.le (by omega)⟩ (fun _ _ _ _ _ => True.intro) ?_ ?_⟩
      · rintro j x σ G20 G2 hj ⟨x3, x4, x5, x6, x7, x8, rfl, lw⟩ ⟨rfl, rfl⟩
        have hj : j < 10 := hj
        refine ⟨_, rfl, p, _, rfl, lw.bx, by omega, fun H1 Z t fl pl xf xp rs k k1 b1 sZ zb zt zf zp rf rp k1' kk ok => ?_⟩
        have l1 := lw.kept np k1 b1
        refine ⟨t, _, rfl, SqT.of (sZ _ _ zt), rfl, _, _, rfl, _, _, rfl, rfl, ?_⟩
        -- what is due
        show tCall spDue [] E0 (tCons (tVar 4) tNil) _ _ _
        refine joinE (t := tCall spDue [] E0 (tCons (tVar 4) tNil)) (R := fun v H2 => Same H1 H2 ∧ DueV (rs.map (·.2)) v H2) (fun Q' q' => ?_) ?_
        · exact ⟨_, rfl, due_as (fl := fl) ok kk (sZ _ _ zf) (rf.imp fun _ _ x => x.same sZ) fun dv H2 s12 dd => q' _ _ ⟨s12, dd⟩⟩
        rintro dv H2 ⟨s12, dd⟩
        have l2 := l1.same s12
        have sZb : Same Z (offb p H2) := offb_in (fun a o e => s12 _ _ (sZ _ _ e)) zb
        have rpb := rp.imp fun _ _ x => x.same sZb
        have plb := sZb _ _ zp
        have z2 := offb_same p H2
        have zbp := offb_p p H2
        show tThen (tIf _ _ _) _ _ _ _
        refine joinE (t := tThen (tIf _ _ _) _) (R := fun v H3 => ∃ F xs, v = .ref F ∧ LW G [(tP, lawQ)] p (74 * j + 74) H3 ∧ Same (offb p H2) H3 ∧ H3 F = some (.tup xs) ∧ (A2 (RPg (offb p H2)) xs (rs.map fun r => (r.2.f, r.1)) ∨ A2 (RPg (offb p H2)) xs (rs.map fun r => (r.2.f, r.1)).reverse)) (fun Q' q' => ?_) ?_
        · refine ⟨_, rfl, p, 2, _, rfl, l2.bx, by decide, by decide, by omega, fun H3 r k3 b3 r0 r1 => ?_⟩
          have l3 := l2.kept np k3 b3
          have z3 := still_kept z2 zbp k3
          refine ⟨rfl, _, rfl, ite2 (fun e => ?_) (fun e => ?_)⟩
          · refine ⟨_, rfl, pl, xp, rfl, SqL.of (z3 _ _ plb), fun R hR => .inl ⟨R, _, rfl, SqL.of upd_same, fun F hF => q' _ _ ⟨F, _, rfl, ?_, ?_, upd_same, .inr rpb.rev⟩⟩⟩
            · exact ((l3.same (same_new hR)).same (same_new hF)).le (by omega)
            · exact still_new (still_new z3 hR) hF
          · refine ⟨_, rfl, .inl ⟨pl, _, rfl, SqL.of (z3 _ _ plb), fun F hF => q' _ _ ⟨F, _, rfl, ?_, ?_, upd_same, .inl rpb⟩⟩⟩
            · exact (l3.same (same_new hF)).le (by omega)
            · exact still_new z3 hF
        rintro v H3 ⟨F, xs, rfl, l3, z3, hF, rF⟩
        refine ⟨by show 2 ≤ sizeLine; decide, fun T2 hT2 => ⟨T2, _, rfl, SqT.of upd_same, rfl, _, _, rfl, _, _, rfl, rfl, ?_⟩⟩
        have s34 : Same H3 (upd H3 T2 (.tup [dv, .ref F])) := same_new hT2
        have l4 := l3.same s34
        have z4 : Same (offb p H2) (upd H3 T2 (.tup [dv, .ref F])) := still_new z3 hT2
        have hF4 := s34 _ _ hF
        generalize upd H3 T2 (.tup [dv, .ref F]) = H4 at l4 z4 hF4 ⊢
        -- the program is asked
        refine ⟨l4.tb, fun H5 eN t5 => ?_⟩
        have l5 := l4.extn eN t5
        have toF : ∀ x : List (Str × Str), A2 (RPg (offb p H2)) xs x → A2 (RPg H5) xs x := fun x h => h.imp fun _ _ ⟨T, e, h⟩ => ⟨T, e, eN _ _ (z4 _ _ h) (fun ps z => by cases z)⟩
        refine proj_told (F := F) (xs := xs) rfl (eN _ _ hF4 (fun ps z => by cases z)) ok k1' kk (rF.imp (toF _) (toF _)) fun tv H6 st6 td => ?_
        have l6 := l5.st st6
        have pl6 := st6.at (eN _ _ (z4 _ _ plb) (fun ps z => by cases z)) rfl
        have lxp : xp.length = k := by rw [rp.len, List.length_map, ok.len kk]
        refine ⟨_, rfl, ?_⟩
        unfold DueV at dd
        unfold ToldV at td
        cases e : dueR (rs.map (·.2)) with
        | some d =>
          rw [e] at dd td
          obtain ⟨t1, rfl, h1⟩ := dd
          obtain ⟨t2, rfl, h2⟩ := td
          have n1 : t1 ≠ p := by
            rintro rfl
            obtain ⟨_, _, _, hb, _⟩ := l2.bx
            rw [h1] at hb
            cases hb
          have h16 := st6.at (eN _ _ (z4 _ _ (offb_of n1 h1)) (fun ps z => by cases z)) rfl
          have sh := tupDat_ok (ok.due_str e)
          refine ⟨_, rfl, rfl, _, rfl, iteT ⟨_, rfl, tupDat d, tupDat d, tupDat_dp h2, tupDat_dp h16, sh, sh, ?_⟩⟩
          rw [SeqAt.eqv_refl _ (SeqAt.canLay_of_shaped sh)]
          refine ⟨_, rfl, iteF ?_⟩
          exact ⟨_, _, _, _, _, _, rfl, l6.le (by omega)⟩
        | none =>
          rw [e] at dd td
          subst dd
          obtain ⟨l, rfl, h2⟩ := td
          refine ⟨_, rfl, rfl, _, rfl, iteF ⟨_, rfl, pl, xp, rfl, .inl (SqL.of pl6), by show 1 ≤ sizeLine; decide, fun L hL => ?_⟩⟩
          have l7 := l6.same (same_new (o := .lst [.int (xp.length : Nat)]) hL)
          refine ⟨natD [k], natD [xp.length], .lst (SqL.of (same_new hL _ _ h2)) (.cons (.int _) .nil), .lst (SqL.of upd_same) (.cons (.int _) .nil), natD_shaped _, natD_shaped _, ?_⟩
          rw [lxp, SeqAt.eqv_refl _ (SeqAt.canLay_of_shaped (natD_shaped _))]
          refine ⟨_, rfl, iteF ?_⟩
          rw [lxp] at l7
          exact ⟨_, _, _, _, _, _, rfl, l7.le (by omega)⟩
      · rintro σ G2 ⟨x3, x4, x5, x6, x7, x8, rfl, lw⟩
        exact ⟨_, _, _, _, _, _, _, _, rfl, seq_old sq lw.old, lw.tb⟩
    · rintro σ G ⟨x1, x2, x3, x4, x5, x6, x7, x8, rfl, sq, tb⟩
      exact q _
end
end V5

namespace V5
open PySem PySem.Spec PyProof.Rows L2 K2 LamX
theorem law_at {w : World} {K : PySem.W.Frag} {mg : Str → Option Value} {h : Heap} (X : K.In h) (G : h.Ns mainGlobals mg) (c : He.SaysX fa fn [] tf ex w h K) :
    LawAtS PySem.Challenge.rw_sourceback_k05_imports_and_names_that_st w K CX0 18 63 "_law_script" mg (f_law K) h := by
  have E : Env K mg := env_of X G c.t.d c.more
  have mem : (("law", none) : He.Defn) ∈ tf := List.mem_singleton.mpr rfl
  refine ⟨fd_law K, [He.cT K ("law", none)], spLaw K, fun p hp => ?_, fun p hp => ?_, fun p hp => ?_, fun s u => ?_, fun H a ns h1 _ h3 hS => ?_, fun base hK hN hT => ?_⟩
  · rw [List.mem_singleton.mp hp]
    exact c.empty _ mem
  · rw [List.mem_singleton.mp hp]
    exact c.out _ mem
  · rw [List.mem_singleton.mp hp]
    exact PySem.W.codeHd_of_K X (c.hd _ mem)
  · obtain ⟨oc, od, kV, doc, pm, an, cdv, ct, osl, hfd, _⟩ := E.F_law.ex
    rw [hfd]
    exact BindsTo.of_eq rfl
  · exact ⟨a, ns, rfl, hS, h1, h3 _ (List.mem_singleton.mpr rfl), fun _ => rfl⟩
  · exact ok_law E (hT _ (List.mem_singleton.mpr rfl))
end V5
open PySem PySem.W PySem.Calls PyProof.Rows
set_option maxHeartbeats 0 in
theorem PySem.Challenge.cw_sourceback_k05_imports_and_names_that_st_holds : PySem.Challenge.rw_sourceback_k05_imports_and_names_that_st.Holds := by
  w_on; o_law
  refine HandSHeadRun.head_any (r := V5.R) (q := V5.qv) (H := V5.hk) (ob := V5.ob) (M := 20000) (loose := V5.names) (d := HandSHeadRun.topDef V5.R.prog 118) (kwd := []) V5.ob_eq
    (by kernel_rfl) (fun s => by kernel_rfl) V5.run (by kernel_rfl) (by kernel_rfl) (by kernel_rfl) (by rfl) (by first | assumption | decide +kernel) (by decide +kernel) ⟨rfl, rfl, rfl, rfl, rfl, by decide +kernel⟩ ?hw ?hc
  case hw => w_witness2
  case hc =>
    refine LamX.walk_ofTsE (l := PySem.Challenge.rw_sourceback_k05_imports_and_names_that_st) (n := 63) (k := 18) (x := "_law_script") (CX := fun _ => L2.CX0) rfl (by decide) (by kernel_rfl) ⟨rfl, by decide, by decide⟩ ?F (fun _ _ _ _ _ z => z)
    intro w mg fa h Y G hmg0
    obtain ⟨K, KX, c⟩ := Y
    have hmg : mg ("law" : PySem.Str) = some (.ref fa) := by exact hmg0
    have E : V5.Env K mg := V5.env_of KX G c.t.d c.more
    have e := hmg.symm.trans E.D_law.g
    cases e
    exact ⟨K, KX, V5.law_at KX G c⟩

