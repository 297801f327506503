import PyProof.Rows.All
import Wide.All
import OpenK.AllK
import Wide.FinOn
import KE.KStateDown
import KE.KExcInit
import Open.SpecLaws
import KE.OsGo
import HandS.ForSpec
import HandS.More
import HandS.Defaults
import HandS.Head0
import HandS.Head1
import HandS.Head2
import HandS.HeadEnd
import HandS.HeadHook1
import HandS.HeadHook2
import HandS.Comp
import HandS.Iter
import HandS.Text
import HandS.Evl
import HandS.FStr
import HandS.Conv
import HandS.Deep
import HandS.ExcField
import PySem.Challenge.RW_chestkeys_s01_answers
import HandS.Spec
import HandS.Walk
import PyVbpxaf
import HandS.ExcInit
import HandS.ExcSuper
import VbpxafSpec
import HandS.SetKeys
import HandS.SortKw
import KE.DataMinMax
import PyProof.DictMoreH
import HandS.WordsExc
import PyFlatLaws
set_option Elab.async false
set_option linter.all false
set_option maxRecDepth 100000
set_option maxHeartbeats 4000000
set_option maxHeartbeats 0
/-! the text by its places -/
namespace CK
open PySem PySem.Spec PyProof.Rows L2
def top (i : Nat) : Stmt := PySem.Challenge.pw_chestkeys_s01_answers.main.body.getD i (.Pass ⟨0, 0, 0, 0⟩)
abbrev s_alone : Stmt := top 2
abbrev N_alone : List Str := ["officer"]
abbrev P_alone : List Str := ["officer"]
abbrev s_all_companies : Stmt := top 3
abbrev N_all_companies : List Str := ["officers"]
abbrev P_all_companies : List Str := ["officers"]
abbrev s_has : Stmt := top 4
abbrev N_has : List Str := ["company", "officer"]
abbrev P_has : List Str := ["company", "officer"]
abbrev s_size : Stmt := top 5
abbrev N_size : List Str := ["company", "officers", "officer"]
abbrev P_size : List Str := ["company", "officers"]
abbrev s_is_least : Stmt := top 6
abbrev N_is_least : List Str := ["allowed", "officers", "company", "officer"]
abbrev P_is_least : List Str := ["allowed", "officers", "company"]
abbrev s_is_greatest_forbidden : Stmt := top 7
abbrev N_is_greatest_forbidden : List Str := ["allowed", "officers", "company", "officer"]
abbrev P_is_greatest_forbidden : List Str := ["allowed", "officers", "company"]
abbrev s_least_companies : Stmt := top 8
abbrev N_least_companies : List Str := ["allowed", "officers", "company"]
abbrev P_least_companies : List Str := ["allowed", "officers"]
abbrev s_forbidden_companies : Stmt := top 9
abbrev N_forbidden_companies : List Str := ["allowed", "officers", "company"]
abbrev P_forbidden_companies : List Str := ["allowed", "officers"]
abbrev s_rule_locks : Stmt := top 10
abbrev N_rule_locks : List Str := ["allowed", "officers", "everybody", "company"]
abbrev P_rule_locks : List Str := ["allowed", "officers"]
abbrev s_key_count : Stmt := top 11
abbrev N_key_count : List Str := ["locks", "officer", "lock"]
abbrev P_key_count : List Str := ["locks", "officer"]
abbrev s_can_unlock : Stmt := top 12
abbrev N_can_unlock : List Str := ["company", "locks", "lock"]
abbrev P_can_unlock : List Str := ["company", "locks"]
abbrev s_allowed_by_locks : Stmt := top 13
abbrev N_allowed_by_locks : List Str := ["locks", "officers", "company"]
abbrev P_allowed_by_locks : List Str := ["locks", "officers"]
abbrev s_where_otherwise : Stmt := top 14
abbrev N_where_otherwise : List Str := ["allowed", "other", "company"]
abbrev P_where_otherwise : List Str := ["allowed", "other"]
abbrev s_swings : Stmt := top 15
abbrev N_swings : List Str := ["allowed", "officer", "company"]
abbrev P_swings : List Str := ["allowed", "officer", "company"]
abbrev s_swing_count : Stmt := top 16
abbrev N_swing_count : List Str := ["allowed", "officer", "company"]
abbrev P_swing_count : List Str := ["allowed", "officer"]
abbrev s_Event_init : Stmt := inClass (top 23) 0
abbrev N_Event_init : List Str := ["self", "kind", "officers"]
abbrev P_Event_init : List Str := ["self", "kind", "officers"]
abbrev s_Hall_init : Stmt := inClass (top 24) 0
abbrev N_Hall_init : List Str := ["self"]
abbrev P_Hall_init : List Str := ["self"]
abbrev s_with_those_stood_for : Stmt := top 25
abbrev N_with_those_stood_for : List Str := ["company", "pairs", "pair"]
abbrev P_with_those_stood_for : List Str := ["company", "pairs"]
abbrev s_those_who_act : Stmt := top 26
abbrev N_those_who_act : List Str := ["hall", "company", "grown"]
abbrev P_those_who_act : List Str := ["hall"]
abbrev s_may_stand : Stmt := top 27
abbrev N_may_stand : List Str := ["hall", "officer", "other"]
abbrev P_may_stand : List Str := ["hall", "officer", "other"]
abbrev s_may_be : Stmt := top 28
abbrev N_may_be : List Str := ["hall", "allowed", "event", "officer"]
abbrev P_may_be : List Str := ["hall", "allowed", "event"]
abbrev s_bury : Stmt := top 29
abbrev N_bury : List Str := ["hall", "officer", "pair"]
abbrev P_bury : List Str := ["hall", "officer"]
abbrev s_happen : Stmt := top 30
abbrev N_happen : List Str := ["hall", "event"]
abbrev P_happen : List Str := ["hall", "event"]
abbrev s_hall_behind : Stmt := top 31
abbrev N_hall_behind : List Str := ["events", "hall", "event"]
abbrev P_hall_behind : List Str := ["events"]
abbrev s_unlockings : Stmt := top 32
abbrev N_unlockings : List Str := ["events", "number", "event"]
abbrev P_unlockings : List Str := ["events"]
abbrev s_event_text : Stmt := top 33
abbrev N_event_text : List Str := ["names", "event", "kind", "told", "officer"]
abbrev P_event_text : List Str := ["names", "event"]
abbrev s_Rule_init : Stmt := inClass (top 38) 0
abbrev N_Rule_init : List Str := ["self", "joined_by", "text", "allowed"]
abbrev P_Rule_init : List Str := ["self", "joined_by", "text", "allowed"]
abbrev s_anybody_rule : Stmt := top 39
abbrev N_anybody_rule : List Str := ["officers", "company"]
abbrev P_anybody_rule : List Str := ["officers"]
abbrev s_nobody_rule : Stmt := top 40
abbrev N_nobody_rule : List Str := ["officers", "company"]
abbrev P_nobody_rule : List Str := ["officers"]
abbrev s_officer_rule : Stmt := top 41
abbrev N_officer_rule : List Str := ["names", "officer", "companies", "company"]
abbrev P_officer_rule : List Str := ["names", "officer"]
abbrev s_so_many_rule : Stmt := top 42
abbrev N_so_many_rule : List Str := ["names", "number", "chosen", "companies", "listed", "allowed", "company", "officer"]
abbrev P_so_many_rule : List Str := ["names", "number", "chosen"]
abbrev s_how_many_in : Stmt := top 43
abbrev N_how_many_in : List Str := ["company", "chosen", "officer"]
abbrev P_how_many_in : List Str := ["company", "chosen"]
abbrev s_and_rule : Stmt := top 44
abbrev N_and_rule : List Str := ["left", "right", "left_text", "right_text", "allowed", "one", "other"]
abbrev P_and_rule : List Str := ["left", "right"]
abbrev s_or_rule : Stmt := top 45
abbrev N_or_rule : List Str := ["left", "right", "left_text", "right_text", "allowed", "one", "other"]
abbrev P_or_rule : List Str := ["left", "right"]
abbrev s_in_brackets : Stmt := top 46
abbrev N_in_brackets : List Str := ["text"]
abbrev P_in_brackets : List Str := ["text"]
abbrev s_Record_init : Stmt := inClass (top 48) 0
abbrev N_Record_init : List Str := ["self", "names", "rule", "events"]
abbrev P_Record_init : List Str := ["self", "names", "rule", "events"]
abbrev s_Record_become : Stmt := inClass (top 48) 1
abbrev N_Record_become : List Str := ["self", "other"]
abbrev P_Record_become : List Str := ["self", "other"]
abbrev s_new_record : Stmt := top 49
abbrev N_new_record : List Str := []
abbrev P_new_record : List Str := []
abbrev s_one_text : Stmt := top 50
abbrev N_one_text : List Str := ["record", "lines", "event"]
abbrev P_one_text : List Str := ["record"]
abbrev s_Refusal_init : Stmt := inClass (top 52) 0
abbrev N_Refusal_init : List Str := ["self", "number"]
abbrev P_Refusal_init : List Str := ["self", "number"]
abbrev s_NoCall_init : Stmt := inClass (top 53) 0
abbrev N_NoCall_init : List Str := ["self"]
abbrev P_NoCall_init : List Str := ["self"]
abbrev s_WrongBytes_init : Stmt := inClass (top 54) 0
abbrev N_WrongBytes_init : List Str := ["self"]
abbrev P_WrongBytes_init : List Str := ["self"]
abbrev s_OutOfRange_init : Stmt := inClass (top 55) 0
abbrev N_OutOfRange_init : List Str := ["self"]
abbrev P_OutOfRange_init : List Str := ["self"]
abbrev s_WrongList_init : Stmt := inClass (top 56) 0
abbrev N_WrongList_init : List Str := ["self"]
abbrev P_WrongList_init : List Str := ["self"]
abbrev s_NotThere_init : Stmt := inClass (top 57) 0
abbrev N_NotThere_init : List Str := ["self"]
abbrev P_NotThere_init : List Str := ["self"]
abbrev s_HasEvents_init : Stmt := inClass (top 58) 0
abbrev N_HasEvents_init : List Str := ["self"]
abbrev P_HasEvents_init : List Str := ["self"]
abbrev s_Fault_init : Stmt := inClass (top 59) 0
abbrev N_Fault_init : List Str := ["self", "place"]
abbrev P_Fault_init : List Str := ["self", "place"]
abbrev s_Word_init : Stmt := inClass (top 68) 0
abbrev N_Word_init : List Str := ["self", "spelled", "place"]
abbrev P_Word_init : List Str := ["self", "spelled", "place"]
abbrev s_sign_of : Stmt := top 69
abbrev N_sign_of : List Str := ["byte", "row", "k"]
abbrev P_sign_of : List Str := ["byte"]
abbrev s_spell : Stmt := top 70
abbrev N_spell : List Str := ["text", "byte"]
abbrev P_spell : List Str := ["text"]
abbrev s_split_words : Stmt := top 71
abbrev N_split_words : List Str := ["text", "words", "start", "place", "byte"]
abbrev P_split_words : List Str := ["text"]
abbrev s_Reader_init : Stmt := inClass (top 72) 0
abbrev N_Reader_init : List Str := ["self", "text"]
abbrev P_Reader_init : List Str := ["self", "text"]
abbrev s_Reader_shown : Stmt := inClass (top 72) 1
abbrev N_Reader_shown : List Str := ["self"]
abbrev P_Reader_shown : List Str := ["self"]
abbrev s_Reader_at_end : Stmt := inClass (top 72) 2
abbrev N_Reader_at_end : List Str := ["self"]
abbrev P_Reader_at_end : List Str := ["self"]
abbrev s_Reader_go_on : Stmt := inClass (top 72) 3
abbrev N_Reader_go_on : List Str := ["self"]
abbrev P_Reader_go_on : List Str := ["self"]
abbrev s_Reader_refuse : Stmt := inClass (top 72) 4
abbrev N_Reader_refuse : List Str := ["self"]
abbrev P_Reader_refuse : List Str := ["self"]
abbrev s_Reader_expect : Stmt := inClass (top 72) 5
abbrev N_Reader_expect : List Str := ["self", "spelled"]
abbrev P_Reader_expect : List Str := ["self", "spelled"]
abbrev s_Reader_finish : Stmt := inClass (top 72) 6
abbrev N_Reader_finish : List Str := ["self"]
abbrev P_Reader_finish : List Str := ["self"]
abbrev s_is_name : Stmt := top 80
abbrev N_is_name : List Str := ["word", "sign"]
abbrev P_is_name : List Str := ["word"]
abbrev s_can_be_told : Stmt := top 81
abbrev N_can_be_told : List Str := ["word", "names"]
abbrev P_can_be_told : List Str := ["word", "names"]
abbrev s_read_names : Stmt := top 82
abbrev N_read_names : List Str := ["reader", "names"]
abbrev P_read_names : List Str := ["reader"]
abbrev s_shown_officer : Stmt := top 83
abbrev N_shown_officer : List Str := ["reader", "names"]
abbrev P_shown_officer : List Str := ["reader", "names"]
abbrev s_read_officer : Stmt := top 84
abbrev N_read_officer : List Str := ["reader", "names", "officer"]
abbrev P_read_officer : List Str := ["reader", "names"]
abbrev s_read_chosen : Stmt := top 85
abbrev N_read_chosen : List Str := ["reader", "names", "number", "chosen", "officer"]
abbrev P_read_chosen : List Str := ["reader", "names", "number"]
abbrev s_read_so_many : Stmt := top 86
abbrev N_read_so_many : List Str := ["reader", "names", "number"]
abbrev P_read_so_many : List Str := ["reader", "names"]
abbrev s_read_bracket : Stmt := top 87
abbrev N_read_bracket : List Str := ["reader", "names", "brackets", "rule"]
abbrev P_read_bracket : List Str := ["reader", "names", "brackets"]
abbrev s_read_one : Stmt := top 88
abbrev N_read_one : List Str := ["reader", "names", "brackets", "word"]
abbrev P_read_one : List Str := ["reader", "names", "brackets"]
abbrev s_read_part : Stmt := top 89
abbrev N_read_part : List Str := ["reader", "names", "brackets", "rule"]
abbrev P_read_part : List Str := ["reader", "names", "brackets"]
abbrev s_read_rule : Stmt := top 90
abbrev N_read_rule : List Str := ["reader", "names", "brackets", "rule"]
abbrev P_read_rule : List Str := ["reader", "names", "brackets"]
abbrev s_read_event_officers : Stmt := top 91
abbrev N_read_event_officers : List Str := ["reader", "names", "kind", "officer"]
abbrev P_read_event_officers : List Str := ["reader", "names", "kind"]
abbrev s_read_event : Stmt := top 92
abbrev N_read_event : List Str := ["reader", "record", "hall", "kind", "event"]
abbrev P_read_event : List Str := ["reader", "record", "hall"]
abbrev s_read_file : Stmt := top 93
abbrev N_read_file : List Str := ["text", "reader", "names", "record", "hall", "event"]
abbrev P_read_file : List Str := ["text"]
abbrev s_read_one_rule : Stmt := top 94
abbrev N_read_one_rule : List Str := ["text", "names", "reader", "rule"]
abbrev P_read_one_rule : List Str := ["text", "names"]
abbrev s_read_one_event : Stmt := top 95
abbrev N_read_one_event : List Str := ["text", "record", "reader", "event"]
abbrev P_read_one_event : List Str := ["text", "record"]
abbrev s_check_range : Stmt := top 103
abbrev N_check_range : List Str := ["number", "last"]
abbrev P_check_range : List Str := ["number", "last"]
abbrev s_check_company : Stmt := top 104
abbrev N_check_company : List Str := ["company", "record"]
abbrev P_check_company : List Str := ["company", "record"]
abbrev s_check_officer : Stmt := top 105
abbrev N_check_officer : List Str := ["officer", "record"]
abbrev P_check_officer : List Str := ["officer", "record"]
abbrev s_check_how_many_events : Stmt := top 106
abbrev N_check_how_many_events : List Str := ["number", "record"]
abbrev P_check_how_many_events : List Str := ["number", "record"]
abbrev s_check_sought : Stmt := top 107
abbrev N_check_sought : List Str := ["most"]
abbrev P_check_sought : List Str := ["most"]
abbrev s_check_bytes : Stmt := top 108
abbrev N_check_bytes : List Str := ["text", "number"]
abbrev P_check_bytes : List Str := ["text"]
abbrev s_check_locks : Stmt := top 109
abbrev N_check_locks : List Str := ["locks", "record", "companies", "lock"]
abbrev P_check_locks : List Str := ["locks", "record"]
abbrev s_check_weights : Stmt := top 110
abbrev N_check_weights : List Str := ["weights", "record", "number"]
abbrev P_check_weights : List Str := ["weights", "record"]
abbrev s_swung_orders : Stmt := top 113
abbrev N_swung_orders : List Str := ["allowed", "officers", "officer", "orders", "company", "ahead"]
abbrev P_swung_orders : List Str := ["allowed", "officers", "officer"]
abbrev s_greatest_divisor : Stmt := top 114
abbrev N_greatest_divisor : List Str := ["number", "other", "rest"]
abbrev P_greatest_divisor : List Str := ["number", "other"]
abbrev s_officer_power : Stmt := top 115
abbrev N_officer_power : List Str := ["allowed", "officers", "officer", "part", "divisor"]
abbrev P_officer_power : List Str := ["allowed", "officers", "officer"]
abbrev s_idle_officers : Stmt := top 116
abbrev N_idle_officers : List Str := ["allowed", "officers", "officer"]
abbrev P_idle_officers : List Str := ["allowed", "officers"]
abbrev s_exchanged : Stmt := top 117
abbrev N_exchanged : List Str := ["company", "officer", "other"]
abbrev P_exchanged : List Str := ["company", "officer", "other"]
abbrev s_are_alike : Stmt := top 118
abbrev N_are_alike : List Str := ["allowed", "officer", "other", "company"]
abbrev P_are_alike : List Str := ["allowed", "officer", "other"]
abbrev s_least_hindering : Stmt := top 119
abbrev N_least_hindering : List Str := ["allowed", "officers", "everybody", "hinders", "company"]
abbrev P_least_hindering : List Str := ["allowed", "officers"]
abbrev s_pairs_of : Stmt := top 121
abbrev N_pairs_of : List Str := ["companies", "pairs", "place", "first", "second"]
abbrev P_pairs_of : List Str := ["companies"]
abbrev s_together : Stmt := top 122
abbrev N_together : List Str := ["pair"]
abbrev P_together : List Str := ["pair"]
abbrev s_first_trade : Stmt := top 123
abbrev N_first_trade : List Str := ["allowed", "first_forbidden", "pair", "company"]
abbrev P_first_trade : List Str := ["allowed"]
abbrev s_company_weight : Stmt := top 125
abbrev N_company_weight : List Str := ["company", "weights", "officer", "weight"]
abbrev P_company_weight : List Str := ["company", "weights"]
abbrev s_all_weigh_more : Stmt := top 126
abbrev N_all_weigh_more : List Str := ["ones", "others", "heaviest", "one"]
abbrev P_all_weigh_more : List Str := ["ones", "others"]
abbrev s_tell_rule : Stmt := top 127
abbrev N_tell_rule : List Str := ["weights", "least", "forbidden", "company"]
abbrev P_tell_rule : List Str := ["weights", "least", "forbidden"]
abbrev s_quota_of : Stmt := top 128
abbrev N_quota_of : List Str := ["weights", "least", "company"]
abbrev P_quota_of : List Str := ["weights", "least"]
abbrev s_moved : Stmt := top 129
abbrev N_moved : List Str := ["companies", "numbers", "officer", "step", "company", "number"]
abbrev P_moved : List Str := ["companies", "numbers", "officer", "step"]
abbrev s_Search_init : Stmt := inClass (top 130) 0
abbrev N_Search_init : List Str := ["self", "least", "forbidden", "officers", "most"]
abbrev P_Search_init : List Str := ["self", "least", "forbidden", "officers", "most"]
abbrev s_Search_first_behind : Stmt := inClass (top 130) 1
abbrev N_Search_first_behind : List Str := ["self", "begun", "tops", "bottoms", "officer", "weight", "lower_tops", "higher_bottoms", "found"]
abbrev P_Search_first_behind : List Str := ["self", "begun", "tops", "bottoms"]
abbrev s_first_weights : Stmt := top 131
abbrev N_first_weights : List Str := ["least", "forbidden", "officers", "most", "search", "tops", "company"]
abbrev P_first_weights : List Str := ["least", "forbidden", "officers", "most"]
abbrev s_counted : Stmt := top 133
abbrev N_counted : List Str := ["numbers"]
abbrev P_counted : List Str := ["numbers"]
abbrev s_yes_or_no : Stmt := top 134
abbrev N_yes_or_no : List Str := ["holds"]
abbrev P_yes_or_no : List Str := ["holds"]
abbrev s_same_or_first_otherwise : Stmt := top 135
abbrev N_same_or_first_otherwise : List Str := ["record", "other", "otherwise"]
abbrev P_same_or_first_otherwise : List Str := ["record", "other"]
abbrev s_state_behind : Stmt := top 136
abbrev N_state_behind : List Str := ["record", "events", "hall", "acting", "may"]
abbrev P_state_behind : List Str := ["record", "events"]
abbrev s_record_least : Stmt := top 137
abbrev N_record_least : List Str := ["record"]
abbrev P_record_least : List Str := ["record"]
abbrev s_record_forbidden : Stmt := top 138
abbrev N_record_forbidden : List Str := ["record"]
abbrev P_record_forbidden : List Str := ["record"]
abbrev s_record_locks : Stmt := top 139
abbrev N_record_locks : List Str := ["record"]
abbrev P_record_locks : List Str := ["record"]
abbrev s_answer_clear : Stmt := top 140
abbrev N_answer_clear : List Str := ["record", "given"]
abbrev P_answer_clear : List Str := ["record", "given"]
abbrev s_answer_file : Stmt := top 141
abbrev N_answer_file : List Str := ["record", "given"]
abbrev P_answer_file : List Str := ["record", "given"]
abbrev s_answer_look : Stmt := top 142
abbrev N_answer_look : List Str := ["record", "given", "fault"]
abbrev P_answer_look : List Str := ["record", "given"]
abbrev s_answer_text : Stmt := top 143
abbrev N_answer_text : List Str := ["record", "given", "sign"]
abbrev P_answer_text : List Str := ["record", "given"]
abbrev s_answer_event : Stmt := top 144
abbrev N_answer_event : List Str := ["record", "given"]
abbrev P_answer_event : List Str := ["record", "given"]
abbrev s_answer_undo : Stmt := top 145
abbrev N_answer_undo : List Str := ["record", "given", "kept"]
abbrev P_answer_undo : List Str := ["record", "given"]
abbrev s_answer_told : Stmt := top 146
abbrev N_answer_told : List Str := ["record", "given", "companies"]
abbrev P_answer_told : List Str := ["record", "given"]
abbrev s_answer_may : Stmt := top 147
abbrev N_answer_may : List Str := ["record", "given", "company"]
abbrev P_answer_may : List Str := ["record", "given"]
abbrev s_answer_least : Stmt := top 148
abbrev N_answer_least : List Str := ["record", "given"]
abbrev P_answer_least : List Str := ["record", "given"]
abbrev s_answer_forbidden : Stmt := top 149
abbrev N_answer_forbidden : List Str := ["record", "given"]
abbrev P_answer_forbidden : List Str := ["record", "given"]
abbrev s_answer_locks : Stmt := top 150
abbrev N_answer_locks : List Str := ["record", "given"]
abbrev P_answer_locks : List Str := ["record", "given"]
abbrev s_answer_keys : Stmt := top 151
abbrev N_answer_keys : List Str := ["record", "given", "locks", "officer"]
abbrev P_answer_keys : List Str := ["record", "given"]
abbrev s_answer_scheme : Stmt := top 152
abbrev N_answer_scheme : List Str := ["record", "given"]
abbrev P_answer_scheme : List Str := ["record", "given"]
abbrev s_answer_swings : Stmt := top 153
abbrev N_answer_swings : List Str := ["record", "given", "officer"]
abbrev P_answer_swings : List Str := ["record", "given"]
abbrev s_answer_power : Stmt := top 154
abbrev N_answer_power : List Str := ["record", "given", "officers", "answered", "officer"]
abbrev P_answer_power : List Str := ["record", "given"]
abbrev s_answer_idle : Stmt := top 155
abbrev N_answer_idle : List Str := ["record", "given"]
abbrev P_answer_idle : List Str := ["record", "given"]
abbrev s_answer_alike : Stmt := top 156
abbrev N_answer_alike : List Str := ["record", "given"]
abbrev P_answer_alike : List Str := ["record", "given"]
abbrev s_answer_hinder : Stmt := top 157
abbrev N_answer_hinder : List Str := ["record", "given"]
abbrev P_answer_hinder : List Str := ["record", "given"]
abbrev s_answer_without : Stmt := top 158
abbrev N_answer_without : List Str := ["record", "given", "left_out", "company"]
abbrev P_answer_without : List Str := ["record", "given"]
abbrev s_answer_weights : Stmt := top 159
abbrev N_answer_weights : List Str := ["record", "given", "most", "least", "weights"]
abbrev P_answer_weights : List Str := ["record", "given"]
abbrev s_answer_weigh : Stmt := top 160
abbrev N_answer_weigh : List Str := ["record", "given", "least"]
abbrev P_answer_weigh : List Str := ["record", "given"]
abbrev s_answer_trade : Stmt := top 161
abbrev N_answer_trade : List Str := ["record", "given", "trade"]
abbrev P_answer_trade : List Str := ["record", "given"]
abbrev s_answer_rule : Stmt := top 162
abbrev N_answer_rule : List Str := ["record", "given", "rule"]
abbrev P_answer_rule : List Str := ["record", "given"]
abbrev s_answer_compare : Stmt := top 163
abbrev N_answer_compare : List Str := ["record", "given"]
abbrev P_answer_compare : List Str := ["record", "given"]
abbrev s_answer_now : Stmt := top 164
abbrev N_answer_now : List Str := ["record", "given"]
abbrev P_answer_now : List Str := ["record", "given"]
abbrev s_answer_behind : Stmt := top 165
abbrev N_answer_behind : List Str := ["record", "given", "number"]
abbrev P_answer_behind : List Str := ["record", "given"]
abbrev s_answer_opened : Stmt := top 166
abbrev N_answer_opened : List Str := ["record", "given"]
abbrev P_answer_opened : List Str := ["record", "given"]
abbrev s_answer : Stmt := top 168
abbrev N_answer : List Str := ["record", "number", "given", "refusal"]
abbrev P_answer : List Str := ["record", "number", "given"]
abbrev s_where_given : Stmt := top 173
abbrev N_where_given : List Str := ["calls", "place"]
abbrev P_where_given : List Str := ["calls", "place"]
abbrev s_how_many_given : Stmt := top 174
abbrev N_how_many_given : List Str := ["calls", "place", "number"]
abbrev P_how_many_given : List Str := ["calls", "place"]
abbrev s_answers : Stmt := top 175
abbrev N_answers : List Str := ["calls", "record", "answered", "place", "start", "end", "numbers"]
abbrev P_answers : List Str := ["calls"]
/-! one datum a def -/
def d_alone : He.DefD := ⟨("alone", none), "alone", "alone", defArgs s_alone, defBody s_alone, defScope s_alone, [], []⟩
def d_all_companies : He.DefD := ⟨("all_companies", none), "all_companies", "all_companies", defArgs s_all_companies, defBody s_all_companies, defScope s_all_companies, [], []⟩
def d_has : He.DefD := ⟨("has", none), "has", "has", defArgs s_has, defBody s_has, defScope s_has, [], []⟩
def d_size : He.DefD := ⟨("size", none), "size", "size", defArgs s_size, defBody s_size, defScope s_size, [], []⟩
def d_is_least : He.DefD := ⟨("is_least", none), "is_least", "is_least", defArgs s_is_least, defBody s_is_least, defScope s_is_least, [], []⟩
def d_is_greatest_forbidden : He.DefD := ⟨("is_greatest_forbidden", none), "is_greatest_forbidden", "is_greatest_forbidden", defArgs s_is_greatest_forbidden, defBody s_is_greatest_forbidden, defScope s_is_greatest_forbidden, [], []⟩
def d_least_companies : He.DefD := ⟨("least_companies", none), "least_companies", "least_companies", defArgs s_least_companies, defBody s_least_companies, defScope s_least_companies, [], []⟩
def d_forbidden_companies : He.DefD := ⟨("forbidden_companies", none), "forbidden_companies", "forbidden_companies", defArgs s_forbidden_companies, defBody s_forbidden_companies, defScope s_forbidden_companies, [], []⟩
def d_rule_locks : He.DefD := ⟨("rule_locks", none), "rule_locks", "rule_locks", defArgs s_rule_locks, defBody s_rule_locks, defScope s_rule_locks, [], []⟩
def d_key_count : He.DefD := ⟨("key_count", none), "key_count", "key_count", defArgs s_key_count, defBody s_key_count, defScope s_key_count, [], []⟩
def d_can_unlock : He.DefD := ⟨("can_unlock", none), "can_unlock", "can_unlock", defArgs s_can_unlock, defBody s_can_unlock, defScope s_can_unlock, [], []⟩
def d_allowed_by_locks : He.DefD := ⟨("allowed_by_locks", none), "allowed_by_locks", "allowed_by_locks", defArgs s_allowed_by_locks, defBody s_allowed_by_locks, defScope s_allowed_by_locks, [], []⟩
def d_where_otherwise : He.DefD := ⟨("where_otherwise", none), "where_otherwise", "where_otherwise", defArgs s_where_otherwise, defBody s_where_otherwise, defScope s_where_otherwise, [], []⟩
def d_swings : He.DefD := ⟨("swings", none), "swings", "swings", defArgs s_swings, defBody s_swings, defScope s_swings, [], []⟩
def d_swing_count : He.DefD := ⟨("swing_count", none), "swing_count", "swing_count", defArgs s_swing_count, defBody s_swing_count, defScope s_swing_count, [], []⟩
def d_Event_init : He.DefD := ⟨("Event", some "__init__"), "__init__", "Event.__init__", defArgs s_Event_init, defBody s_Event_init, defScope s_Event_init, [], []⟩
def d_Hall_init : He.DefD := ⟨("Hall", some "__init__"), "__init__", "Hall.__init__", defArgs s_Hall_init, defBody s_Hall_init, defScope s_Hall_init, [], []⟩
def d_with_those_stood_for : He.DefD := ⟨("with_those_stood_for", none), "with_those_stood_for", "with_those_stood_for", defArgs s_with_those_stood_for, defBody s_with_those_stood_for, defScope s_with_those_stood_for, [], []⟩
def d_those_who_act : He.DefD := ⟨("those_who_act", none), "those_who_act", "those_who_act", defArgs s_those_who_act, defBody s_those_who_act, defScope s_those_who_act, [], []⟩
def d_may_stand : He.DefD := ⟨("may_stand", none), "may_stand", "may_stand", defArgs s_may_stand, defBody s_may_stand, defScope s_may_stand, [], []⟩
def d_may_be : He.DefD := ⟨("may_be", none), "may_be", "may_be", defArgs s_may_be, defBody s_may_be, defScope s_may_be, [], []⟩
def d_bury : He.DefD := ⟨("bury", none), "bury", "bury", defArgs s_bury, defBody s_bury, defScope s_bury, [], []⟩
def d_happen : He.DefD := ⟨("happen", none), "happen", "happen", defArgs s_happen, defBody s_happen, defScope s_happen, [], []⟩
def d_hall_behind : He.DefD := ⟨("hall_behind", none), "hall_behind", "hall_behind", defArgs s_hall_behind, defBody s_hall_behind, defScope s_hall_behind, [], []⟩
def d_unlockings : He.DefD := ⟨("unlockings", none), "unlockings", "unlockings", defArgs s_unlockings, defBody s_unlockings, defScope s_unlockings, [], []⟩
def d_event_text : He.DefD := ⟨("event_text", none), "event_text", "event_text", defArgs s_event_text, defBody s_event_text, defScope s_event_text, [], []⟩
def d_Rule_init : He.DefD := ⟨("Rule", some "__init__"), "__init__", "Rule.__init__", defArgs s_Rule_init, defBody s_Rule_init, defScope s_Rule_init, [], []⟩
def d_anybody_rule : He.DefD := ⟨("anybody_rule", none), "anybody_rule", "anybody_rule", defArgs s_anybody_rule, defBody s_anybody_rule, defScope s_anybody_rule, [], []⟩
def d_nobody_rule : He.DefD := ⟨("nobody_rule", none), "nobody_rule", "nobody_rule", defArgs s_nobody_rule, defBody s_nobody_rule, defScope s_nobody_rule, [], []⟩
def d_officer_rule : He.DefD := ⟨("officer_rule", none), "officer_rule", "officer_rule", defArgs s_officer_rule, defBody s_officer_rule, defScope s_officer_rule, [], []⟩
def d_so_many_rule : He.DefD := ⟨("so_many_rule", none), "so_many_rule", "so_many_rule", defArgs s_so_many_rule, defBody s_so_many_rule, defScope s_so_many_rule, [], []⟩
def d_how_many_in : He.DefD := ⟨("how_many_in", none), "how_many_in", "how_many_in", defArgs s_how_many_in, defBody s_how_many_in, defScope s_how_many_in, [], []⟩
def d_and_rule : He.DefD := ⟨("and_rule", none), "and_rule", "and_rule", defArgs s_and_rule, defBody s_and_rule, defScope s_and_rule, [], []⟩
def d_or_rule : He.DefD := ⟨("or_rule", none), "or_rule", "or_rule", defArgs s_or_rule, defBody s_or_rule, defScope s_or_rule, [], []⟩
def d_in_brackets : He.DefD := ⟨("in_brackets", none), "in_brackets", "in_brackets", defArgs s_in_brackets, defBody s_in_brackets, defScope s_in_brackets, [], []⟩
def d_Record_init : He.DefD := ⟨("Record", some "__init__"), "__init__", "Record.__init__", defArgs s_Record_init, defBody s_Record_init, defScope s_Record_init, [], []⟩
def d_Record_become : He.DefD := ⟨("Record", some "become"), "become", "Record.become", defArgs s_Record_become, defBody s_Record_become, defScope s_Record_become, [], []⟩
def d_new_record : He.DefD := ⟨("new_record", none), "new_record", "new_record", defArgs s_new_record, defBody s_new_record, defScope s_new_record, [], []⟩
def d_one_text : He.DefD := ⟨("one_text", none), "one_text", "one_text", defArgs s_one_text, defBody s_one_text, defScope s_one_text, [], []⟩
def d_Refusal_init : He.DefD := ⟨("Refusal", some "__init__"), "__init__", "Refusal.__init__", defArgs s_Refusal_init, defBody s_Refusal_init, defScope s_Refusal_init, [], []⟩
def d_NoCall_init : He.DefD := ⟨("NoCall", some "__init__"), "__init__", "NoCall.__init__", defArgs s_NoCall_init, defBody s_NoCall_init, defScope s_NoCall_init, [], []⟩
def d_WrongBytes_init : He.DefD := ⟨("WrongBytes", some "__init__"), "__init__", "WrongBytes.__init__", defArgs s_WrongBytes_init, defBody s_WrongBytes_init, defScope s_WrongBytes_init, [], []⟩
def d_OutOfRange_init : He.DefD := ⟨("OutOfRange", some "__init__"), "__init__", "OutOfRange.__init__", defArgs s_OutOfRange_init, defBody s_OutOfRange_init, defScope s_OutOfRange_init, [], []⟩
def d_WrongList_init : He.DefD := ⟨("WrongList", some "__init__"), "__init__", "WrongList.__init__", defArgs s_WrongList_init, defBody s_WrongList_init, defScope s_WrongList_init, [], []⟩
def d_NotThere_init : He.DefD := ⟨("NotThere", some "__init__"), "__init__", "NotThere.__init__", defArgs s_NotThere_init, defBody s_NotThere_init, defScope s_NotThere_init, [], []⟩
def d_HasEvents_init : He.DefD := ⟨("HasEvents", some "__init__"), "__init__", "HasEvents.__init__", defArgs s_HasEvents_init, defBody s_HasEvents_init, defScope s_HasEvents_init, [], []⟩
def d_Fault_init : He.DefD := ⟨("Fault", some "__init__"), "__init__", "Fault.__init__", defArgs s_Fault_init, defBody s_Fault_init, defScope s_Fault_init, [], []⟩
def d_Word_init : He.DefD := ⟨("Word", some "__init__"), "__init__", "Word.__init__", defArgs s_Word_init, defBody s_Word_init, defScope s_Word_init, [], []⟩
def d_sign_of : He.DefD := ⟨("sign_of", none), "sign_of", "sign_of", defArgs s_sign_of, defBody s_sign_of, defScope s_sign_of, [], []⟩
def d_spell : He.DefD := ⟨("spell", none), "spell", "spell", defArgs s_spell, defBody s_spell, defScope s_spell, [], []⟩
def d_split_words : He.DefD := ⟨("split_words", none), "split_words", "split_words", defArgs s_split_words, defBody s_split_words, defScope s_split_words, [], []⟩
def d_Reader_init : He.DefD := ⟨("Reader", some "__init__"), "__init__", "Reader.__init__", defArgs s_Reader_init, defBody s_Reader_init, defScope s_Reader_init, [], []⟩
def d_Reader_shown : He.DefD := ⟨("Reader", some "shown"), "shown", "Reader.shown", defArgs s_Reader_shown, defBody s_Reader_shown, defScope s_Reader_shown, [], []⟩
def d_Reader_at_end : He.DefD := ⟨("Reader", some "at_end"), "at_end", "Reader.at_end", defArgs s_Reader_at_end, defBody s_Reader_at_end, defScope s_Reader_at_end, [], []⟩
def d_Reader_go_on : He.DefD := ⟨("Reader", some "go_on"), "go_on", "Reader.go_on", defArgs s_Reader_go_on, defBody s_Reader_go_on, defScope s_Reader_go_on, [], []⟩
def d_Reader_refuse : He.DefD := ⟨("Reader", some "refuse"), "refuse", "Reader.refuse", defArgs s_Reader_refuse, defBody s_Reader_refuse, defScope s_Reader_refuse, [], []⟩
def d_Reader_expect : He.DefD := ⟨("Reader", some "expect"), "expect", "Reader.expect", defArgs s_Reader_expect, defBody s_Reader_expect, defScope s_Reader_expect, [], []⟩
def d_Reader_finish : He.DefD := ⟨("Reader", some "finish"), "finish", "Reader.finish", defArgs s_Reader_finish, defBody s_Reader_finish, defScope s_Reader_finish, [], []⟩
def d_is_name : He.DefD := ⟨("is_name", none), "is_name", "is_name", defArgs s_is_name, defBody s_is_name, defScope s_is_name, [], []⟩
def d_can_be_told : He.DefD := ⟨("can_be_told", none), "can_be_told", "can_be_told", defArgs s_can_be_told, defBody s_can_be_told, defScope s_can_be_told, [], []⟩
def d_read_names : He.DefD := ⟨("read_names", none), "read_names", "read_names", defArgs s_read_names, defBody s_read_names, defScope s_read_names, [], []⟩
def d_shown_officer : He.DefD := ⟨("shown_officer", none), "shown_officer", "shown_officer", defArgs s_shown_officer, defBody s_shown_officer, defScope s_shown_officer, [], []⟩
def d_read_officer : He.DefD := ⟨("read_officer", none), "read_officer", "read_officer", defArgs s_read_officer, defBody s_read_officer, defScope s_read_officer, [], []⟩
def d_read_chosen : He.DefD := ⟨("read_chosen", none), "read_chosen", "read_chosen", defArgs s_read_chosen, defBody s_read_chosen, defScope s_read_chosen, [], []⟩
def d_read_so_many : He.DefD := ⟨("read_so_many", none), "read_so_many", "read_so_many", defArgs s_read_so_many, defBody s_read_so_many, defScope s_read_so_many, [], []⟩
def d_read_bracket : He.DefD := ⟨("read_bracket", none), "read_bracket", "read_bracket", defArgs s_read_bracket, defBody s_read_bracket, defScope s_read_bracket, [], []⟩
def d_read_one : He.DefD := ⟨("read_one", none), "read_one", "read_one", defArgs s_read_one, defBody s_read_one, defScope s_read_one, [], []⟩
def d_read_part : He.DefD := ⟨("read_part", none), "read_part", "read_part", defArgs s_read_part, defBody s_read_part, defScope s_read_part, [], []⟩
def d_read_rule : He.DefD := ⟨("read_rule", none), "read_rule", "read_rule", defArgs s_read_rule, defBody s_read_rule, defScope s_read_rule, [], []⟩
def d_read_event_officers : He.DefD := ⟨("read_event_officers", none), "read_event_officers", "read_event_officers", defArgs s_read_event_officers, defBody s_read_event_officers, defScope s_read_event_officers, [], []⟩
def d_read_event : He.DefD := ⟨("read_event", none), "read_event", "read_event", defArgs s_read_event, defBody s_read_event, defScope s_read_event, [], []⟩
def d_read_file : He.DefD := ⟨("read_file", none), "read_file", "read_file", defArgs s_read_file, defBody s_read_file, defScope s_read_file, [], []⟩
def d_read_one_rule : He.DefD := ⟨("read_one_rule", none), "read_one_rule", "read_one_rule", defArgs s_read_one_rule, defBody s_read_one_rule, defScope s_read_one_rule, [], []⟩
def d_read_one_event : He.DefD := ⟨("read_one_event", none), "read_one_event", "read_one_event", defArgs s_read_one_event, defBody s_read_one_event, defScope s_read_one_event, [], []⟩
def d_check_range : He.DefD := ⟨("check_range", none), "check_range", "check_range", defArgs s_check_range, defBody s_check_range, defScope s_check_range, [], []⟩
def d_check_company : He.DefD := ⟨("check_company", none), "check_company", "check_company", defArgs s_check_company, defBody s_check_company, defScope s_check_company, [], []⟩
def d_check_officer : He.DefD := ⟨("check_officer", none), "check_officer", "check_officer", defArgs s_check_officer, defBody s_check_officer, defScope s_check_officer, [], []⟩
def d_check_how_many_events : He.DefD := ⟨("check_how_many_events", none), "check_how_many_events", "check_how_many_events", defArgs s_check_how_many_events, defBody s_check_how_many_events, defScope s_check_how_many_events, [], []⟩
def d_check_sought : He.DefD := ⟨("check_sought", none), "check_sought", "check_sought", defArgs s_check_sought, defBody s_check_sought, defScope s_check_sought, [], []⟩
def d_check_bytes : He.DefD := ⟨("check_bytes", none), "check_bytes", "check_bytes", defArgs s_check_bytes, defBody s_check_bytes, defScope s_check_bytes, [], []⟩
def d_check_locks : He.DefD := ⟨("check_locks", none), "check_locks", "check_locks", defArgs s_check_locks, defBody s_check_locks, defScope s_check_locks, [], []⟩
def d_check_weights : He.DefD := ⟨("check_weights", none), "check_weights", "check_weights", defArgs s_check_weights, defBody s_check_weights, defScope s_check_weights, [], []⟩
def d_swung_orders : He.DefD := ⟨("swung_orders", none), "swung_orders", "swung_orders", defArgs s_swung_orders, defBody s_swung_orders, defScope s_swung_orders, [], []⟩
def d_greatest_divisor : He.DefD := ⟨("greatest_divisor", none), "greatest_divisor", "greatest_divisor", defArgs s_greatest_divisor, defBody s_greatest_divisor, defScope s_greatest_divisor, [], []⟩
def d_officer_power : He.DefD := ⟨("officer_power", none), "officer_power", "officer_power", defArgs s_officer_power, defBody s_officer_power, defScope s_officer_power, [], []⟩
def d_idle_officers : He.DefD := ⟨("idle_officers", none), "idle_officers", "idle_officers", defArgs s_idle_officers, defBody s_idle_officers, defScope s_idle_officers, [], []⟩
def d_exchanged : He.DefD := ⟨("exchanged", none), "exchanged", "exchanged", defArgs s_exchanged, defBody s_exchanged, defScope s_exchanged, [], []⟩
def d_are_alike : He.DefD := ⟨("are_alike", none), "are_alike", "are_alike", defArgs s_are_alike, defBody s_are_alike, defScope s_are_alike, [], []⟩
def d_least_hindering : He.DefD := ⟨("least_hindering", none), "least_hindering", "least_hindering", defArgs s_least_hindering, defBody s_least_hindering, defScope s_least_hindering, [], []⟩
def d_pairs_of : He.DefD := ⟨("pairs_of", none), "pairs_of", "pairs_of", defArgs s_pairs_of, defBody s_pairs_of, defScope s_pairs_of, [], []⟩
def d_together : He.DefD := ⟨("together", none), "together", "together", defArgs s_together, defBody s_together, defScope s_together, [], []⟩
def d_first_trade : He.DefD := ⟨("first_trade", none), "first_trade", "first_trade", defArgs s_first_trade, defBody s_first_trade, defScope s_first_trade, [], []⟩
def d_company_weight : He.DefD := ⟨("company_weight", none), "company_weight", "company_weight", defArgs s_company_weight, defBody s_company_weight, defScope s_company_weight, [], []⟩
def d_all_weigh_more : He.DefD := ⟨("all_weigh_more", none), "all_weigh_more", "all_weigh_more", defArgs s_all_weigh_more, defBody s_all_weigh_more, defScope s_all_weigh_more, [], []⟩
def d_tell_rule : He.DefD := ⟨("tell_rule", none), "tell_rule", "tell_rule", defArgs s_tell_rule, defBody s_tell_rule, defScope s_tell_rule, [], []⟩
def d_quota_of : He.DefD := ⟨("quota_of", none), "quota_of", "quota_of", defArgs s_quota_of, defBody s_quota_of, defScope s_quota_of, [], []⟩
def d_moved : He.DefD := ⟨("moved", none), "moved", "moved", defArgs s_moved, defBody s_moved, defScope s_moved, [], []⟩
def d_Search_init : He.DefD := ⟨("Search", some "__init__"), "__init__", "Search.__init__", defArgs s_Search_init, defBody s_Search_init, defScope s_Search_init, [], []⟩
def d_Search_first_behind : He.DefD := ⟨("Search", some "first_behind"), "first_behind", "Search.first_behind", defArgs s_Search_first_behind, defBody s_Search_first_behind, defScope s_Search_first_behind, [], []⟩
def d_first_weights : He.DefD := ⟨("first_weights", none), "first_weights", "first_weights", defArgs s_first_weights, defBody s_first_weights, defScope s_first_weights, [], []⟩
def d_counted : He.DefD := ⟨("counted", none), "counted", "counted", defArgs s_counted, defBody s_counted, defScope s_counted, [], []⟩
def d_yes_or_no : He.DefD := ⟨("yes_or_no", none), "yes_or_no", "yes_or_no", defArgs s_yes_or_no, defBody s_yes_or_no, defScope s_yes_or_no, [], []⟩
def d_same_or_first_otherwise : He.DefD := ⟨("same_or_first_otherwise", none), "same_or_first_otherwise", "same_or_first_otherwise", defArgs s_same_or_first_otherwise, defBody s_same_or_first_otherwise, defScope s_same_or_first_otherwise, [], []⟩
def d_state_behind : He.DefD := ⟨("state_behind", none), "state_behind", "state_behind", defArgs s_state_behind, defBody s_state_behind, defScope s_state_behind, [], []⟩
def d_record_least : He.DefD := ⟨("record_least", none), "record_least", "record_least", defArgs s_record_least, defBody s_record_least, defScope s_record_least, [], []⟩
def d_record_forbidden : He.DefD := ⟨("record_forbidden", none), "record_forbidden", "record_forbidden", defArgs s_record_forbidden, defBody s_record_forbidden, defScope s_record_forbidden, [], []⟩
def d_record_locks : He.DefD := ⟨("record_locks", none), "record_locks", "record_locks", defArgs s_record_locks, defBody s_record_locks, defScope s_record_locks, [], []⟩
def d_answer_clear : He.DefD := ⟨("answer_clear", none), "answer_clear", "answer_clear", defArgs s_answer_clear, defBody s_answer_clear, defScope s_answer_clear, [], []⟩
def d_answer_file : He.DefD := ⟨("answer_file", none), "answer_file", "answer_file", defArgs s_answer_file, defBody s_answer_file, defScope s_answer_file, [], []⟩
def d_answer_look : He.DefD := ⟨("answer_look", none), "answer_look", "answer_look", defArgs s_answer_look, defBody s_answer_look, defScope s_answer_look, [], []⟩
def d_answer_text : He.DefD := ⟨("answer_text", none), "answer_text", "answer_text", defArgs s_answer_text, defBody s_answer_text, defScope s_answer_text, [], []⟩
def d_answer_event : He.DefD := ⟨("answer_event", none), "answer_event", "answer_event", defArgs s_answer_event, defBody s_answer_event, defScope s_answer_event, [], []⟩
def d_answer_undo : He.DefD := ⟨("answer_undo", none), "answer_undo", "answer_undo", defArgs s_answer_undo, defBody s_answer_undo, defScope s_answer_undo, [], []⟩
def d_answer_told : He.DefD := ⟨("answer_told", none), "answer_told", "answer_told", defArgs s_answer_told, defBody s_answer_told, defScope s_answer_told, [], []⟩
def d_answer_may : He.DefD := ⟨("answer_may", none), "answer_may", "answer_may", defArgs s_answer_may, defBody s_answer_may, defScope s_answer_may, [], []⟩
def d_answer_least : He.DefD := ⟨("answer_least", none), "answer_least", "answer_least", defArgs s_answer_least, defBody s_answer_least, defScope s_answer_least, [], []⟩
def d_answer_forbidden : He.DefD := ⟨("answer_forbidden", none), "answer_forbidden", "answer_forbidden", defArgs s_answer_forbidden, defBody s_answer_forbidden, defScope s_answer_forbidden, [], []⟩
def d_answer_locks : He.DefD := ⟨("answer_locks", none), "answer_locks", "answer_locks", defArgs s_answer_locks, defBody s_answer_locks, defScope s_answer_locks, [], []⟩
def d_answer_keys : He.DefD := ⟨("answer_keys", none), "answer_keys", "answer_keys", defArgs s_answer_keys, defBody s_answer_keys, defScope s_answer_keys, [], []⟩
def d_answer_scheme : He.DefD := ⟨("answer_scheme", none), "answer_scheme", "answer_scheme", defArgs s_answer_scheme, defBody s_answer_scheme, defScope s_answer_scheme, [], []⟩
def d_answer_swings : He.DefD := ⟨("answer_swings", none), "answer_swings", "answer_swings", defArgs s_answer_swings, defBody s_answer_swings, defScope s_answer_swings, [], []⟩
def d_answer_power : He.DefD := ⟨("answer_power", none), "answer_power", "answer_power", defArgs s_answer_power, defBody s_answer_power, defScope s_answer_power, [], []⟩
def d_answer_idle : He.DefD := ⟨("answer_idle", none), "answer_idle", "answer_idle", defArgs s_answer_idle, defBody s_answer_idle, defScope s_answer_idle, [], []⟩
def d_answer_alike : He.DefD := ⟨("answer_alike", none), "answer_alike", "answer_alike", defArgs s_answer_alike, defBody s_answer_alike, defScope s_answer_alike, [], []⟩
def d_answer_hinder : He.DefD := ⟨("answer_hinder", none), "answer_hinder", "answer_hinder", defArgs s_answer_hinder, defBody s_answer_hinder, defScope s_answer_hinder, [], []⟩
def d_answer_without : He.DefD := ⟨("answer_without", none), "answer_without", "answer_without", defArgs s_answer_without, defBody s_answer_without, defScope s_answer_without, [], []⟩
def d_answer_weights : He.DefD := ⟨("answer_weights", none), "answer_weights", "answer_weights", defArgs s_answer_weights, defBody s_answer_weights, defScope s_answer_weights, [], []⟩
def d_answer_weigh : He.DefD := ⟨("answer_weigh", none), "answer_weigh", "answer_weigh", defArgs s_answer_weigh, defBody s_answer_weigh, defScope s_answer_weigh, [], []⟩
def d_answer_trade : He.DefD := ⟨("answer_trade", none), "answer_trade", "answer_trade", defArgs s_answer_trade, defBody s_answer_trade, defScope s_answer_trade, [], []⟩
def d_answer_rule : He.DefD := ⟨("answer_rule", none), "answer_rule", "answer_rule", defArgs s_answer_rule, defBody s_answer_rule, defScope s_answer_rule, [], []⟩
def d_answer_compare : He.DefD := ⟨("answer_compare", none), "answer_compare", "answer_compare", defArgs s_answer_compare, defBody s_answer_compare, defScope s_answer_compare, [], []⟩
def d_answer_now : He.DefD := ⟨("answer_now", none), "answer_now", "answer_now", defArgs s_answer_now, defBody s_answer_now, defScope s_answer_now, [], []⟩
def d_answer_behind : He.DefD := ⟨("answer_behind", none), "answer_behind", "answer_behind", defArgs s_answer_behind, defBody s_answer_behind, defScope s_answer_behind, [], []⟩
def d_answer_opened : He.DefD := ⟨("answer_opened", none), "answer_opened", "answer_opened", defArgs s_answer_opened, defBody s_answer_opened, defScope s_answer_opened, [], []⟩
def d_answer : He.DefD := ⟨("answer", none), "answer", "answer", defArgs s_answer, defBody s_answer, defScope s_answer, [], []⟩
def d_where_given : He.DefD := ⟨("where_given", none), "where_given", "where_given", defArgs s_where_given, defBody s_where_given, defScope s_where_given, [], []⟩
def d_how_many_given : He.DefD := ⟨("how_many_given", none), "how_many_given", "how_many_given", defArgs s_how_many_given, defBody s_how_many_given, defScope s_how_many_given, [], []⟩
def d_answers : He.DefD := ⟨("answers", none), "answers", "answers", defArgs s_answers, defBody s_answers, defScope s_answers, [], []⟩
def fns : List He.DefD := [d_alone, d_all_companies, d_has, d_size, d_is_least, d_is_greatest_forbidden, d_least_companies, d_forbidden_companies, d_rule_locks, d_key_count, d_can_unlock, d_allowed_by_locks, d_where_otherwise, d_swings, d_swing_count, d_Event_init, d_Hall_init, d_with_those_stood_for, d_those_who_act, d_may_stand, d_may_be, d_bury, d_happen, d_hall_behind, d_unlockings, d_event_text, d_Rule_init, d_anybody_rule, d_nobody_rule, d_officer_rule, d_so_many_rule, d_how_many_in, d_and_rule, d_or_rule, d_in_brackets, d_Record_init, d_Record_become, d_new_record, d_one_text, d_Refusal_init, d_NoCall_init, d_WrongBytes_init, d_OutOfRange_init, d_WrongList_init, d_NotThere_init, d_HasEvents_init, d_Fault_init, d_Word_init, d_sign_of, d_spell, d_split_words, d_Reader_init, d_Reader_shown, d_Reader_at_end, d_Reader_go_on, d_Reader_refuse, d_Reader_expect, d_Reader_finish, d_is_name, d_can_be_told, d_read_names, d_shown_officer, d_read_officer, d_read_chosen, d_read_so_many, d_read_bracket, d_read_one, d_read_part, d_read_rule, d_read_event_officers, d_read_event, d_read_file, d_read_one_rule, d_read_one_event, d_check_range, d_check_company, d_check_officer, d_check_how_many_events, d_check_sought, d_check_bytes, d_check_locks, d_check_weights, d_swung_orders, d_greatest_divisor, d_officer_power, d_idle_officers, d_exchanged, d_are_alike, d_least_hindering, d_pairs_of, d_together, d_first_trade, d_company_weight, d_all_weigh_more, d_tell_rule, d_quota_of, d_moved, d_Search_init, d_Search_first_behind, d_first_weights, d_counted, d_yes_or_no, d_same_or_first_otherwise, d_state_behind, d_record_least, d_record_forbidden, d_record_locks, d_answer_clear, d_answer_file, d_answer_look, d_answer_text, d_answer_event, d_answer_undo, d_answer_told, d_answer_may, d_answer_least, d_answer_forbidden, d_answer_locks, d_answer_keys, d_answer_scheme, d_answer_swings, d_answer_power, d_answer_idle, d_answer_alike, d_answer_hinder, d_answer_without, d_answer_weights, d_answer_weigh, d_answer_trade, d_answer_rule, d_answer_compare, d_answer_now, d_answer_behind, d_answer_opened, d_answer, d_where_given, d_how_many_given, d_answers]
def fas0 : List He.Fa := [.glo "alone", .glo "all_companies", .glo "has", .glo "size", .glo "is_least", .glo "is_greatest_forbidden", .glo "least_companies", .glo "forbidden_companies", .glo "rule_locks", .glo "key_count", .glo "can_unlock", .glo "allowed_by_locks", .glo "where_otherwise", .glo "swings", .glo "swing_count", .glo "with_those_stood_for", .glo "those_who_act", .glo "may_stand", .glo "may_be", .glo "bury", .glo "happen", .glo "hall_behind", .glo "unlockings", .glo "event_text", .glo "anybody_rule", .glo "nobody_rule", .glo "officer_rule", .glo "so_many_rule", .glo "how_many_in", .glo "and_rule"]
def fas1 : List He.Fa := [.glo "or_rule", .glo "in_brackets", .glo "new_record", .glo "one_text", .glo "sign_of", .glo "spell", .glo "split_words", .glo "is_name", .glo "can_be_told", .glo "read_names", .glo "shown_officer", .glo "read_officer", .glo "read_chosen", .glo "read_so_many", .glo "read_bracket", .glo "read_one", .glo "read_part", .glo "read_rule", .glo "read_event_officers", .glo "read_event", .glo "read_file", .glo "read_one_rule", .glo "read_one_event", .glo "check_range", .glo "check_company", .glo "check_officer", .glo "check_how_many_events", .glo "check_sought", .glo "check_bytes", .glo "check_locks"]
def fas2 : List He.Fa := [.glo "check_weights", .glo "swung_orders", .glo "greatest_divisor", .glo "officer_power", .glo "idle_officers", .glo "exchanged", .glo "are_alike", .glo "least_hindering", .glo "pairs_of", .glo "together", .glo "first_trade", .glo "company_weight", .glo "all_weigh_more", .glo "tell_rule", .glo "quota_of", .glo "moved", .glo "first_weights", .glo "counted", .glo "yes_or_no", .glo "same_or_first_otherwise", .glo "state_behind", .glo "record_least", .glo "record_forbidden", .glo "record_locks", .glo "answer_clear", .glo "answer_file", .glo "answer_look", .glo "answer_text", .glo "answer_event", .glo "answer_undo"]
def fas3 : List He.Fa := [.glo "answer_told", .glo "answer_may", .glo "answer_least", .glo "answer_forbidden", .glo "answer_locks", .glo "answer_keys", .glo "answer_scheme", .glo "answer_swings", .glo "answer_power", .glo "answer_idle", .glo "answer_alike", .glo "answer_hinder", .glo "answer_without", .glo "answer_weights", .glo "answer_weigh", .glo "answer_trade", .glo "answer_rule", .glo "answer_compare", .glo "answer_now", .glo "answer_behind", .glo "answer_opened", .glo "answer", .glo "where_given", .glo "how_many_given", .glo "answers", .glo "POWERS", .str "COME" "come", .str "GO" "go", .str "DIE" "die", .str "STAND" "stand"]
def fas4 : List He.Fa := [.str "UNLOCK" "open", .glo "Event", .glo "Hall", .str "SINGLE" "single", .str "AND" "and", .str "OR" "or", .glo "Rule", .glo "Record", .glo "Refusal", .glo "NoCall", .glo "WrongBytes", .glo "OutOfRange", .glo "WrongList", .glo "NotThere", .glo "HasEvents", .glo "Fault", .int "BLANK" 32, .int "LINE_END" 10, .str "LINE_END_WORD" "\n", .str "LETTERS" "abcdefghijklmnopqrstuvwxyz", .str "DIGITS" "0123456789", .str "BRACKETS" "()", .str "OTHER_SIGN" "?", .glo "Word", .glo "Reader", .int "MOST_OFFICERS" 6, .int "MOST_LETTERS" 12, .int "MOST_BRACKETS" 8, .int "MOST_EVENTS" 60, .glo "NO_NAMES"]
def fas5 : List He.Fa := [.glo "NUMBERS", .int "MOST_BYTES" 2000, .int "LAST_BYTE" 255, .int "MOST_LOCKS" 100, .int "LAST_COMPANY" 63, .int "GREATEST_WEIGHT" 1000, .int "GREATEST_SOUGHT" 5, .glo "ORDERS", .glo "Search", .glo "ANSWERERS", .glo "WITH_LIST", .glo "WITH_NUMBER", .glo "WITH_TWO_NUMBERS", .free "Exception", .free "all", .free "enumerate", .free "int", .free "len", .free "list", .free "max", .free "min", .free "ord", .free "range", .free "sum", .free "zip", .cls "Event", .mkr "Event", .noat "Event" "kind", .noat "Event" "officers", .cls "Hall"]
def fas6 : List He.Fa := [.mkr "Hall", .noat "Hall" "there", .noat "Hall" "dead", .noat "Hall" "pairs", .cls "Rule", .mkr "Rule", .noat "Rule" "joined_by", .noat "Rule" "text", .noat "Rule" "allowed", .cls "Record", .mkr "Record", .noat "Record" "names", .noat "Record" "rule", .noat "Record" "events", .meth "Record" "become", .cls "Word", .mkr "Word", .noat "Word" "spelled", .noat "Word" "place", .cls "Reader", .mkr "Reader", .noat "Reader" "words", .noat "Reader" "position", .meth "Reader" "shown", .meth "Reader" "at_end", .meth "Reader" "go_on", .meth "Reader" "refuse", .meth "Reader" "expect", .meth "Reader" "finish", .cls "Search"]
def fas7 : List He.Fa := [.mkr "Search", .noat "Search" "least", .noat "Search" "forbidden", .noat "Search" "officers", .noat "Search" "most", .meth "Search" "first_behind"]
def fas : List He.Fa := fas0 ++ fas1 ++ fas2 ++ fas3 ++ fas4 ++ fas5 ++ fas6 ++ fas7
def t_POWERS : List He.Dv := [.int 1, .int 2, .int 4, .int 8, .int 16, .int 32, .int 64]
def t_NO_NAMES : List He.Dv := [.str "and", .str "or", .str "of", .str "anybody", .str "nobody"]
def t_NUMBERS : List He.Dv := [.str "1", .str "2", .str "3", .str "4", .str "5", .str "6"]
def t_ORDERS : List He.Dv := [.int 1, .int 1, .int 2, .int 6, .int 24, .int 120, .int 720]
def t_ANSWERERS : List He.Dv := [.glo "answer_clear", .glo "answer_file", .glo "answer_look", .glo "answer_text", .glo "answer_event", .glo "answer_undo", .glo "answer_told", .glo "answer_may", .glo "answer_least", .glo "answer_forbidden", .glo "answer_locks", .glo "answer_keys", .glo "answer_scheme", .glo "answer_swings", .glo "answer_power", .glo "answer_idle", .glo "answer_alike", .glo "answer_hinder", .glo "answer_without", .glo "answer_weights", .glo "answer_weigh", .glo "answer_trade", .glo "answer_rule", .glo "answer_compare", .glo "answer_now", .glo "answer_behind", .glo "answer_opened"]
def t_WITH_LIST : List He.Dv := [.int 1, .int 2, .int 4, .int 12, .int 20, .int 22, .int 23]
def t_WITH_NUMBER : List He.Dv := [.int 5, .int 7, .int 18, .int 19, .int 25]
def t_WITH_TWO_NUMBERS : List He.Dv := [.int 16]
def tupsB (K : PySem.W.Frag) : Bool := He.tupB K "POWERS" t_POWERS && He.tupB K "NO_NAMES" t_NO_NAMES && He.tupB K "NUMBERS" t_NUMBERS && He.tupB K "ORDERS" t_ORDERS && He.tupB K "ANSWERERS" t_ANSWERERS && He.tupB K "WITH_LIST" t_WITH_LIST && He.tupB K "WITH_NUMBER" t_WITH_NUMBER && He.tupB K "WITH_TWO_NUMBERS" t_WITH_TWO_NUMBERS
/-! the error classes -/
def excList : List (Str × List Str) := [("Refusal", ["number"]), ("NoCall", ["number"]), ("WrongBytes", ["number"]), ("OutOfRange", ["number"]), ("WrongList", ["number"]), ("NotThere", ["number"]), ("HasEvents", ["number"]), ("Fault", ["number", "place"])]
def exTail : List Value := [.type "Exception", .type "BaseException", .type "object"]
/-- what is asked of an error's class -/
def initB (K : PySem.W.Frag) (C : Addr) : Bool := match PySem.W.findCls K (.ref C) (.type "type") "__init__" with
  | some (.val (.ref f)) => decide (f = He.ma K C "__init__")
  | _ => false
def excInitB (K : PySem.W.Frag) : Bool := match PySem.W.findCls K (.type "Exception") (.type "type") "__init__" with
  | some (.val (.builtin f)) => decide (f = "Exception.__init__")
  | _ => false
def excB (K : PySem.W.Frag) (x : Str) : Bool :=
  PySem.W.excOver K (He.ga K x) exTail && (PySem.W.readsIn K (He.ga K x) (.type "type") && (initB K (He.ga K x) && (He.eqO (PySem.W.specialIn K (.ref (He.ga K x)) "__getattribute__") (some (some (.builtin "type.__getattribute__"))) &&
  (PySem.W.keepIn K (.ref (He.ma K (He.ga K x) "__init__")) && (PySem.W.excInitIn K (He.ga K x) exTail "Exception.__new__" && (He.eqO (PySem.W.findIn K (.ref (He.ga K x)) "__setattr__") (some (some (.builtin "object.__setattr__"))) &&
  (decide (PySem.W.subIn K (.ref (He.ga K x)) (.type "BaseException") = some true) && (decide (PySem.W.typeIn K (.ref (He.ga K x)) = some (.type "type")) &&
  (PySem.W.keepIn K (.ref (He.ga K x)) && (PySem.W.hasDictIn K (He.ga K x) && (He.eqO (PySem.W.findIn K (.ref (He.ga K x)) "__getattribute__") (some (some (.builtin "BaseException.__getattribute__"))) &&
  (He.eqO (PySem.W.findIn K (.ref (He.ga K x)) "__getattr__") (some none) && (He.eqO (PySem.W.findIn K (.ref (He.ga K x)) "__init__") (some (some (.ref (He.ma K (He.ga K x) "__init__")))) &&
  decide (PySem.W.typeIn K (.ref (He.ma K (He.ga K x) "__init__")) = some (.type "function")))))))))))))))
def excsB (K : PySem.W.Frag) : Bool := excInitB K && excList.all fun p => excB K p.1 && (p.2.all fun a => He.eqO (PySem.W.findIn K (.ref (He.ga K p.1)) a) (some none))
def exmList : List (Str × Str × Bool) := [("Refusal", "Fault", false), ("Refusal", "Refusal", true), ("NoCall", "Fault", false), ("NoCall", "Refusal", true), ("WrongBytes", "Fault", false), ("WrongBytes", "Refusal", true), ("OutOfRange", "Fault", false), ("OutOfRange", "Refusal", true), ("WrongList", "Fault", false), ("WrongList", "Refusal", true), ("NotThere", "Fault", false), ("NotThere", "Refusal", true), ("HasEvents", "Fault", false), ("HasEvents", "Refusal", true), ("Fault", "Fault", true), ("Fault", "Refusal", true)]
def exmsB (K : PySem.W.Frag) : Bool := exmList.all fun p => decide (PySem.W.exmOne K (.ref (He.ga K p.1)) (.ref (He.ga K p.2.1)) = some p.2.2)
def allB (K : PySem.W.Frag) : Bool := (fas.all fun f => f.ok K) && (fns.all fun d => d.ok K) && tupsB K && excsB K && exmsB K
def loose0 : List Str := ["AND", "ANSWERERS", "BLANK", "BRACKETS", "COME", "DIE", "DIGITS", "Event", "Fault", "GO", "GREATEST_SOUGHT", "GREATEST_WEIGHT", "Hall", "HasEvents", "LAST_BYTE", "LAST_COMPANY", "LETTERS", "LINE_END", "LINE_END_WORD", "MOST_BRACKETS", "MOST_BYTES", "MOST_EVENTS", "MOST_LETTERS", "MOST_LOCKS", "MOST_OFFICERS", "NO_NAMES", "NUMBERS", "NoCall", "NotThere", "OR"]
def loose1 : List Str := ["ORDERS", "OTHER_SIGN", "OutOfRange", "POWERS", "Reader", "Record", "Refusal", "Rule", "SINGLE", "STAND", "Search", "UNLOCK", "WITH_LIST", "WITH_NUMBER", "WITH_TWO_NUMBERS", "Word", "WrongBytes", "WrongList", "all_companies", "all_weigh_more", "allowed_by_locks", "alone", "and_rule", "answer", "answer_alike", "answer_behind", "answer_clear", "answer_compare", "answer_event", "answer_file"]
def loose2 : List Str := ["answer_forbidden", "answer_hinder", "answer_idle", "answer_keys", "answer_least", "answer_locks", "answer_look", "answer_may", "answer_now", "answer_opened", "answer_power", "answer_rule", "answer_scheme", "answer_swings", "answer_text", "answer_told", "answer_trade", "answer_undo", "answer_weigh", "answer_weights", "answer_without", "anybody_rule", "are_alike", "bury", "can_be_told", "can_unlock", "check_bytes", "check_company", "check_how_many_events", "check_locks"]
def loose3 : List Str := ["check_officer", "check_range", "check_sought", "check_weights", "company_weight", "counted", "event_text", "exchanged", "first_trade", "first_weights", "forbidden_companies", "greatest_divisor", "hall_behind", "happen", "has", "how_many_given", "how_many_in", "idle_officers", "in_brackets", "is_greatest_forbidden", "is_least", "is_name", "key_count", "least_companies", "least_hindering", "may_be", "may_stand", "moved", "new_record", "nobody_rule"]
def loose4 : List Str := ["officer_power", "officer_rule", "one_text", "or_rule", "pairs_of", "quota_of", "read_bracket", "read_chosen", "read_event", "read_event_officers", "read_file", "read_names", "read_officer", "read_one", "read_one_event", "read_one_rule", "read_part", "read_rule", "read_so_many", "record_forbidden", "record_least", "record_locks", "rule_locks", "same_or_first_otherwise", "shown_officer", "sign_of", "size", "so_many_rule", "spell", "split_words"]
def loose5 : List Str := ["state_behind", "swing_count", "swings", "swung_orders", "tell_rule", "those_who_act", "together", "unlockings", "where_given", "where_otherwise", "with_those_stood_for", "yes_or_no"]
def loose : List Str := loose0 ++ loose1 ++ loose2 ++ loose3 ++ loose4 ++ loose5
def ansAt : Nat := 175
abbrev AlC : Type := Bool × List He.FnW
def obsC (K : PySem.W.Frag) : AlC := (allB K, fns.map fun d => He.fnW K d.at_)
def valC : AlC := (true, fns.map He.DefD.val)
def SaysC (K : PySem.W.Frag) : Prop := obsC K = valC
/-- what the top has left: K its written part, mg the module's names -/
structure Top (K : PySem.W.Frag) (mg : Str → Option Value) : Prop where
  says : SaysC K
  heap : ∃ h : Heap, K.In h ∧ h.Ns mainGlobals mg
section
variable {K : PySem.W.Frag} {mg : Str → Option Value}
theorem Top.all (S : Top K mg) : allB K = true := congrArg (fun z : AlC => z.1) S.says
theorem Top.p1 (S : Top K mg) : (fas.all fun f => f.ok K) = true ∧ (fns.all fun d => d.ok K) = true ∧ tupsB K = true ∧ excsB K = true ∧ exmsB K = true := by
  have h := S.all
  unfold allB at h
  rw [Bool.and_eq_true, Bool.and_eq_true, Bool.and_eq_true, Bool.and_eq_true] at h
  exact ⟨h.1.1.1.1, h.1.1.1.2, h.1.1.2, h.1.2, h.2⟩
theorem Top.fact (S : Top K mg) (i : Nat) {f : He.Fa} (e : fas[i]? = some f) : f.ok K = true := List.all_eq_true.mp S.p1.1 f (List.mem_of_getElem? e)
theorem Top.glo (S : Top K mg) (i : Nat) {x : Str} (e : fas[i]? = some (.glo x)) : mg x = some (.ref (He.ga K x)) := by
  obtain ⟨h, X, G⟩ := S.heap
  exact He.glo_ok X G (S.fact i e)
theorem Top.free (S : Top K mg) (i : Nat) {x : Str} (e : fas[i]? = some (.free x)) : mg x = none := by
  obtain ⟨h, X, G⟩ := S.heap
  exact He.free_ok X G (S.fact i e)
theorem Top.int (S : Top K mg) (i : Nat) {x : Str} {n : Int} (e : fas[i]? = some (.int x n)) : ∃ t, mg x = some (.int n t) := by
  obtain ⟨h, X, G⟩ := S.heap
  exact He.int_ok X G (S.fact i e)
theorem Top.str (S : Top K mg) (i : Nat) {x z : Str} (e : fas[i]? = some (.str x z)) : ∃ t, mg x = some (.str z t) := by
  obtain ⟨h, X, G⟩ := S.heap
  exact He.str_ok X G (S.fact i e)
theorem Top.fn (S : Top K mg) (i : Nat) {d : He.DefD} (e : fns[i]? = some d) : ∃ fd, FunD K d.name d.qual d.params d.body d.scope (d.dvs K) (d.kws K) (He.fAd K d.at_) fd := by
  have c : fns.map (fun d => He.fnW K d.at_) = fns.map He.DefD.val := congrArg (fun z : AlC => z.2) S.says
  have e2 : (fns.map fun d => He.fnW K d.at_)[i]? = (fns.map He.DefD.val)[i]? := by rw [c]
  rw [List.getElem?_map, List.getElem?_map, e] at e2
  exact He.DefD.funD (Option.some.inj e2) (List.all_eq_true.mp S.p1.2.1 d (List.mem_of_getElem? e))
end
/-- how a def's arguments bind -/
def Bi (st : Stmt) (x qual : Str) (ps : List Str) : Prop := ∀ (kV doc pm : Value) (an : Option Addr) (cdv ct : Value) (us : List Value), us.length = ps.length →
  bindArgs (PySem.W.fnOf x qual (defArgs st) (defBody st) (defScope st) .none kV doc pm an cdv ct) ⟨us, []⟩ = pure (ps.zip us)

section
variable {K : PySem.W.Frag} {mg : Str → Option Value}
theorem g_alone (S : Top K mg) : mg "alone" = some (.ref (He.ga K "alone")) := S.glo 0 rfl
theorem g_all_companies (S : Top K mg) : mg "all_companies" = some (.ref (He.ga K "all_companies")) := S.glo 1 rfl
theorem g_has (S : Top K mg) : mg "has" = some (.ref (He.ga K "has")) := S.glo 2 rfl
theorem g_size (S : Top K mg) : mg "size" = some (.ref (He.ga K "size")) := S.glo 3 rfl
theorem g_is_least (S : Top K mg) : mg "is_least" = some (.ref (He.ga K "is_least")) := S.glo 4 rfl
theorem g_is_greatest_forbidden (S : Top K mg) : mg "is_greatest_forbidden" = some (.ref (He.ga K "is_greatest_forbidden")) := S.glo 5 rfl
theorem g_least_companies (S : Top K mg) : mg "least_companies" = some (.ref (He.ga K "least_companies")) := S.glo 6 rfl
theorem g_forbidden_companies (S : Top K mg) : mg "forbidden_companies" = some (.ref (He.ga K "forbidden_companies")) := S.glo 7 rfl
theorem g_rule_locks (S : Top K mg) : mg "rule_locks" = some (.ref (He.ga K "rule_locks")) := S.glo 8 rfl
theorem g_key_count (S : Top K mg) : mg "key_count" = some (.ref (He.ga K "key_count")) := S.glo 9 rfl
theorem g_can_unlock (S : Top K mg) : mg "can_unlock" = some (.ref (He.ga K "can_unlock")) := S.glo 10 rfl
theorem g_allowed_by_locks (S : Top K mg) : mg "allowed_by_locks" = some (.ref (He.ga K "allowed_by_locks")) := S.glo 11 rfl
theorem g_where_otherwise (S : Top K mg) : mg "where_otherwise" = some (.ref (He.ga K "where_otherwise")) := S.glo 12 rfl
theorem g_swings (S : Top K mg) : mg "swings" = some (.ref (He.ga K "swings")) := S.glo 13 rfl
theorem g_swing_count (S : Top K mg) : mg "swing_count" = some (.ref (He.ga K "swing_count")) := S.glo 14 rfl
theorem g_with_those_stood_for (S : Top K mg) : mg "with_those_stood_for" = some (.ref (He.ga K "with_those_stood_for")) := S.glo 15 rfl
theorem g_those_who_act (S : Top K mg) : mg "those_who_act" = some (.ref (He.ga K "those_who_act")) := S.glo 16 rfl
theorem g_may_stand (S : Top K mg) : mg "may_stand" = some (.ref (He.ga K "may_stand")) := S.glo 17 rfl
theorem g_may_be (S : Top K mg) : mg "may_be" = some (.ref (He.ga K "may_be")) := S.glo 18 rfl
theorem g_bury (S : Top K mg) : mg "bury" = some (.ref (He.ga K "bury")) := S.glo 19 rfl
theorem g_happen (S : Top K mg) : mg "happen" = some (.ref (He.ga K "happen")) := S.glo 20 rfl
theorem g_hall_behind (S : Top K mg) : mg "hall_behind" = some (.ref (He.ga K "hall_behind")) := S.glo 21 rfl
theorem g_unlockings (S : Top K mg) : mg "unlockings" = some (.ref (He.ga K "unlockings")) := S.glo 22 rfl
theorem g_event_text (S : Top K mg) : mg "event_text" = some (.ref (He.ga K "event_text")) := S.glo 23 rfl
theorem g_anybody_rule (S : Top K mg) : mg "anybody_rule" = some (.ref (He.ga K "anybody_rule")) := S.glo 24 rfl
theorem g_nobody_rule (S : Top K mg) : mg "nobody_rule" = some (.ref (He.ga K "nobody_rule")) := S.glo 25 rfl
theorem g_officer_rule (S : Top K mg) : mg "officer_rule" = some (.ref (He.ga K "officer_rule")) := S.glo 26 rfl
theorem g_so_many_rule (S : Top K mg) : mg "so_many_rule" = some (.ref (He.ga K "so_many_rule")) := S.glo 27 rfl
theorem g_how_many_in (S : Top K mg) : mg "how_many_in" = some (.ref (He.ga K "how_many_in")) := S.glo 28 rfl
theorem g_and_rule (S : Top K mg) : mg "and_rule" = some (.ref (He.ga K "and_rule")) := S.glo 29 rfl
theorem g_or_rule (S : Top K mg) : mg "or_rule" = some (.ref (He.ga K "or_rule")) := S.glo 30 rfl
theorem g_in_brackets (S : Top K mg) : mg "in_brackets" = some (.ref (He.ga K "in_brackets")) := S.glo 31 rfl
theorem g_new_record (S : Top K mg) : mg "new_record" = some (.ref (He.ga K "new_record")) := S.glo 32 rfl
theorem g_one_text (S : Top K mg) : mg "one_text" = some (.ref (He.ga K "one_text")) := S.glo 33 rfl
theorem g_sign_of (S : Top K mg) : mg "sign_of" = some (.ref (He.ga K "sign_of")) := S.glo 34 rfl
theorem g_spell (S : Top K mg) : mg "spell" = some (.ref (He.ga K "spell")) := S.glo 35 rfl
theorem g_split_words (S : Top K mg) : mg "split_words" = some (.ref (He.ga K "split_words")) := S.glo 36 rfl
theorem g_is_name (S : Top K mg) : mg "is_name" = some (.ref (He.ga K "is_name")) := S.glo 37 rfl
theorem g_can_be_told (S : Top K mg) : mg "can_be_told" = some (.ref (He.ga K "can_be_told")) := S.glo 38 rfl
theorem g_read_names (S : Top K mg) : mg "read_names" = some (.ref (He.ga K "read_names")) := S.glo 39 rfl
theorem g_shown_officer (S : Top K mg) : mg "shown_officer" = some (.ref (He.ga K "shown_officer")) := S.glo 40 rfl
theorem g_read_officer (S : Top K mg) : mg "read_officer" = some (.ref (He.ga K "read_officer")) := S.glo 41 rfl
theorem g_read_chosen (S : Top K mg) : mg "read_chosen" = some (.ref (He.ga K "read_chosen")) := S.glo 42 rfl
theorem g_read_so_many (S : Top K mg) : mg "read_so_many" = some (.ref (He.ga K "read_so_many")) := S.glo 43 rfl
theorem g_read_bracket (S : Top K mg) : mg "read_bracket" = some (.ref (He.ga K "read_bracket")) := S.glo 44 rfl
theorem g_read_one (S : Top K mg) : mg "read_one" = some (.ref (He.ga K "read_one")) := S.glo 45 rfl
theorem g_read_part (S : Top K mg) : mg "read_part" = some (.ref (He.ga K "read_part")) := S.glo 46 rfl
theorem g_read_rule (S : Top K mg) : mg "read_rule" = some (.ref (He.ga K "read_rule")) := S.glo 47 rfl
theorem g_read_event_officers (S : Top K mg) : mg "read_event_officers" = some (.ref (He.ga K "read_event_officers")) := S.glo 48 rfl
theorem g_read_event (S : Top K mg) : mg "read_event" = some (.ref (He.ga K "read_event")) := S.glo 49 rfl
theorem g_read_file (S : Top K mg) : mg "read_file" = some (.ref (He.ga K "read_file")) := S.glo 50 rfl
theorem g_read_one_rule (S : Top K mg) : mg "read_one_rule" = some (.ref (He.ga K "read_one_rule")) := S.glo 51 rfl
theorem g_read_one_event (S : Top K mg) : mg "read_one_event" = some (.ref (He.ga K "read_one_event")) := S.glo 52 rfl
theorem g_check_range (S : Top K mg) : mg "check_range" = some (.ref (He.ga K "check_range")) := S.glo 53 rfl
theorem g_check_company (S : Top K mg) : mg "check_company" = some (.ref (He.ga K "check_company")) := S.glo 54 rfl
theorem g_check_officer (S : Top K mg) : mg "check_officer" = some (.ref (He.ga K "check_officer")) := S.glo 55 rfl
theorem g_check_how_many_events (S : Top K mg) : mg "check_how_many_events" = some (.ref (He.ga K "check_how_many_events")) := S.glo 56 rfl
theorem g_check_sought (S : Top K mg) : mg "check_sought" = some (.ref (He.ga K "check_sought")) := S.glo 57 rfl
theorem g_check_bytes (S : Top K mg) : mg "check_bytes" = some (.ref (He.ga K "check_bytes")) := S.glo 58 rfl
theorem g_check_locks (S : Top K mg) : mg "check_locks" = some (.ref (He.ga K "check_locks")) := S.glo 59 rfl
theorem g_check_weights (S : Top K mg) : mg "check_weights" = some (.ref (He.ga K "check_weights")) := S.glo 60 rfl
theorem g_swung_orders (S : Top K mg) : mg "swung_orders" = some (.ref (He.ga K "swung_orders")) := S.glo 61 rfl
theorem g_greatest_divisor (S : Top K mg) : mg "greatest_divisor" = some (.ref (He.ga K "greatest_divisor")) := S.glo 62 rfl
theorem g_officer_power (S : Top K mg) : mg "officer_power" = some (.ref (He.ga K "officer_power")) := S.glo 63 rfl
theorem g_idle_officers (S : Top K mg) : mg "idle_officers" = some (.ref (He.ga K "idle_officers")) := S.glo 64 rfl
theorem g_exchanged (S : Top K mg) : mg "exchanged" = some (.ref (He.ga K "exchanged")) := S.glo 65 rfl
theorem g_are_alike (S : Top K mg) : mg "are_alike" = some (.ref (He.ga K "are_alike")) := S.glo 66 rfl
theorem g_least_hindering (S : Top K mg) : mg "least_hindering" = some (.ref (He.ga K "least_hindering")) := S.glo 67 rfl
theorem g_pairs_of (S : Top K mg) : mg "pairs_of" = some (.ref (He.ga K "pairs_of")) := S.glo 68 rfl
theorem g_together (S : Top K mg) : mg "together" = some (.ref (He.ga K "together")) := S.glo 69 rfl
theorem g_first_trade (S : Top K mg) : mg "first_trade" = some (.ref (He.ga K "first_trade")) := S.glo 70 rfl
theorem g_company_weight (S : Top K mg) : mg "company_weight" = some (.ref (He.ga K "company_weight")) := S.glo 71 rfl
theorem g_all_weigh_more (S : Top K mg) : mg "all_weigh_more" = some (.ref (He.ga K "all_weigh_more")) := S.glo 72 rfl
theorem g_tell_rule (S : Top K mg) : mg "tell_rule" = some (.ref (He.ga K "tell_rule")) := S.glo 73 rfl
theorem g_quota_of (S : Top K mg) : mg "quota_of" = some (.ref (He.ga K "quota_of")) := S.glo 74 rfl
theorem g_moved (S : Top K mg) : mg "moved" = some (.ref (He.ga K "moved")) := S.glo 75 rfl
theorem g_first_weights (S : Top K mg) : mg "first_weights" = some (.ref (He.ga K "first_weights")) := S.glo 76 rfl
theorem g_counted (S : Top K mg) : mg "counted" = some (.ref (He.ga K "counted")) := S.glo 77 rfl
theorem g_yes_or_no (S : Top K mg) : mg "yes_or_no" = some (.ref (He.ga K "yes_or_no")) := S.glo 78 rfl
theorem g_same_or_first_otherwise (S : Top K mg) : mg "same_or_first_otherwise" = some (.ref (He.ga K "same_or_first_otherwise")) := S.glo 79 rfl
theorem g_state_behind (S : Top K mg) : mg "state_behind" = some (.ref (He.ga K "state_behind")) := S.glo 80 rfl
theorem g_record_least (S : Top K mg) : mg "record_least" = some (.ref (He.ga K "record_least")) := S.glo 81 rfl
theorem g_record_forbidden (S : Top K mg) : mg "record_forbidden" = some (.ref (He.ga K "record_forbidden")) := S.glo 82 rfl
theorem g_record_locks (S : Top K mg) : mg "record_locks" = some (.ref (He.ga K "record_locks")) := S.glo 83 rfl
theorem g_answer_clear (S : Top K mg) : mg "answer_clear" = some (.ref (He.ga K "answer_clear")) := S.glo 84 rfl
theorem g_answer_file (S : Top K mg) : mg "answer_file" = some (.ref (He.ga K "answer_file")) := S.glo 85 rfl
theorem g_answer_look (S : Top K mg) : mg "answer_look" = some (.ref (He.ga K "answer_look")) := S.glo 86 rfl
theorem g_answer_text (S : Top K mg) : mg "answer_text" = some (.ref (He.ga K "answer_text")) := S.glo 87 rfl
theorem g_answer_event (S : Top K mg) : mg "answer_event" = some (.ref (He.ga K "answer_event")) := S.glo 88 rfl
theorem g_answer_undo (S : Top K mg) : mg "answer_undo" = some (.ref (He.ga K "answer_undo")) := S.glo 89 rfl
theorem g_answer_told (S : Top K mg) : mg "answer_told" = some (.ref (He.ga K "answer_told")) := S.glo 90 rfl
theorem g_answer_may (S : Top K mg) : mg "answer_may" = some (.ref (He.ga K "answer_may")) := S.glo 91 rfl
theorem g_answer_least (S : Top K mg) : mg "answer_least" = some (.ref (He.ga K "answer_least")) := S.glo 92 rfl
theorem g_answer_forbidden (S : Top K mg) : mg "answer_forbidden" = some (.ref (He.ga K "answer_forbidden")) := S.glo 93 rfl
theorem g_answer_locks (S : Top K mg) : mg "answer_locks" = some (.ref (He.ga K "answer_locks")) := S.glo 94 rfl
theorem g_answer_keys (S : Top K mg) : mg "answer_keys" = some (.ref (He.ga K "answer_keys")) := S.glo 95 rfl
theorem g_answer_scheme (S : Top K mg) : mg "answer_scheme" = some (.ref (He.ga K "answer_scheme")) := S.glo 96 rfl
theorem g_answer_swings (S : Top K mg) : mg "answer_swings" = some (.ref (He.ga K "answer_swings")) := S.glo 97 rfl
theorem g_answer_power (S : Top K mg) : mg "answer_power" = some (.ref (He.ga K "answer_power")) := S.glo 98 rfl
theorem g_answer_idle (S : Top K mg) : mg "answer_idle" = some (.ref (He.ga K "answer_idle")) := S.glo 99 rfl
theorem g_answer_alike (S : Top K mg) : mg "answer_alike" = some (.ref (He.ga K "answer_alike")) := S.glo 100 rfl
theorem g_answer_hinder (S : Top K mg) : mg "answer_hinder" = some (.ref (He.ga K "answer_hinder")) := S.glo 101 rfl
theorem g_answer_without (S : Top K mg) : mg "answer_without" = some (.ref (He.ga K "answer_without")) := S.glo 102 rfl
theorem g_answer_weights (S : Top K mg) : mg "answer_weights" = some (.ref (He.ga K "answer_weights")) := S.glo 103 rfl
theorem g_answer_weigh (S : Top K mg) : mg "answer_weigh" = some (.ref (He.ga K "answer_weigh")) := S.glo 104 rfl
theorem g_answer_trade (S : Top K mg) : mg "answer_trade" = some (.ref (He.ga K "answer_trade")) := S.glo 105 rfl
theorem g_answer_rule (S : Top K mg) : mg "answer_rule" = some (.ref (He.ga K "answer_rule")) := S.glo 106 rfl
theorem g_answer_compare (S : Top K mg) : mg "answer_compare" = some (.ref (He.ga K "answer_compare")) := S.glo 107 rfl
theorem g_answer_now (S : Top K mg) : mg "answer_now" = some (.ref (He.ga K "answer_now")) := S.glo 108 rfl
theorem g_answer_behind (S : Top K mg) : mg "answer_behind" = some (.ref (He.ga K "answer_behind")) := S.glo 109 rfl
theorem g_answer_opened (S : Top K mg) : mg "answer_opened" = some (.ref (He.ga K "answer_opened")) := S.glo 110 rfl
theorem g_answer (S : Top K mg) : mg "answer" = some (.ref (He.ga K "answer")) := S.glo 111 rfl
theorem g_where_given (S : Top K mg) : mg "where_given" = some (.ref (He.ga K "where_given")) := S.glo 112 rfl
theorem g_how_many_given (S : Top K mg) : mg "how_many_given" = some (.ref (He.ga K "how_many_given")) := S.glo 113 rfl
theorem g_answers (S : Top K mg) : mg "answers" = some (.ref (He.ga K "answers")) := S.glo 114 rfl
theorem g_POWERS (S : Top K mg) : mg "POWERS" = some (.ref (He.ga K "POWERS")) := S.glo 115 rfl
theorem g_COME (S : Top K mg) : ∃ t, mg "COME" = some (.str "come" t) := S.str 116 rfl
theorem g_GO (S : Top K mg) : ∃ t, mg "GO" = some (.str "go" t) := S.str 117 rfl
theorem g_DIE (S : Top K mg) : ∃ t, mg "DIE" = some (.str "die" t) := S.str 118 rfl
theorem g_STAND (S : Top K mg) : ∃ t, mg "STAND" = some (.str "stand" t) := S.str 119 rfl
theorem g_UNLOCK (S : Top K mg) : ∃ t, mg "UNLOCK" = some (.str "open" t) := S.str 120 rfl
theorem g_Event (S : Top K mg) : mg "Event" = some (.ref (He.ga K "Event")) := S.glo 121 rfl
theorem g_Hall (S : Top K mg) : mg "Hall" = some (.ref (He.ga K "Hall")) := S.glo 122 rfl
theorem g_SINGLE (S : Top K mg) : ∃ t, mg "SINGLE" = some (.str "single" t) := S.str 123 rfl
theorem g_AND (S : Top K mg) : ∃ t, mg "AND" = some (.str "and" t) := S.str 124 rfl
theorem g_OR (S : Top K mg) : ∃ t, mg "OR" = some (.str "or" t) := S.str 125 rfl
theorem g_Rule (S : Top K mg) : mg "Rule" = some (.ref (He.ga K "Rule")) := S.glo 126 rfl
theorem g_Record (S : Top K mg) : mg "Record" = some (.ref (He.ga K "Record")) := S.glo 127 rfl
theorem g_Refusal (S : Top K mg) : mg "Refusal" = some (.ref (He.ga K "Refusal")) := S.glo 128 rfl
theorem g_NoCall (S : Top K mg) : mg "NoCall" = some (.ref (He.ga K "NoCall")) := S.glo 129 rfl
theorem g_WrongBytes (S : Top K mg) : mg "WrongBytes" = some (.ref (He.ga K "WrongBytes")) := S.glo 130 rfl
theorem g_OutOfRange (S : Top K mg) : mg "OutOfRange" = some (.ref (He.ga K "OutOfRange")) := S.glo 131 rfl
theorem g_WrongList (S : Top K mg) : mg "WrongList" = some (.ref (He.ga K "WrongList")) := S.glo 132 rfl
theorem g_NotThere (S : Top K mg) : mg "NotThere" = some (.ref (He.ga K "NotThere")) := S.glo 133 rfl
theorem g_HasEvents (S : Top K mg) : mg "HasEvents" = some (.ref (He.ga K "HasEvents")) := S.glo 134 rfl
theorem g_Fault (S : Top K mg) : mg "Fault" = some (.ref (He.ga K "Fault")) := S.glo 135 rfl
theorem g_BLANK (S : Top K mg) : ∃ t, mg "BLANK" = some (.int 32 t) := S.int 136 rfl
theorem g_LINE_END (S : Top K mg) : ∃ t, mg "LINE_END" = some (.int 10 t) := S.int 137 rfl
theorem g_LINE_END_WORD (S : Top K mg) : ∃ t, mg "LINE_END_WORD" = some (.str "\n" t) := S.str 138 rfl
theorem g_LETTERS (S : Top K mg) : ∃ t, mg "LETTERS" = some (.str "abcdefghijklmnopqrstuvwxyz" t) := S.str 139 rfl
theorem g_DIGITS (S : Top K mg) : ∃ t, mg "DIGITS" = some (.str "0123456789" t) := S.str 140 rfl
theorem g_BRACKETS (S : Top K mg) : ∃ t, mg "BRACKETS" = some (.str "()" t) := S.str 141 rfl
theorem g_OTHER_SIGN (S : Top K mg) : ∃ t, mg "OTHER_SIGN" = some (.str "?" t) := S.str 142 rfl
theorem g_Word (S : Top K mg) : mg "Word" = some (.ref (He.ga K "Word")) := S.glo 143 rfl
theorem g_Reader (S : Top K mg) : mg "Reader" = some (.ref (He.ga K "Reader")) := S.glo 144 rfl
theorem g_MOST_OFFICERS (S : Top K mg) : ∃ t, mg "MOST_OFFICERS" = some (.int 6 t) := S.int 145 rfl
theorem g_MOST_LETTERS (S : Top K mg) : ∃ t, mg "MOST_LETTERS" = some (.int 12 t) := S.int 146 rfl
theorem g_MOST_BRACKETS (S : Top K mg) : ∃ t, mg "MOST_BRACKETS" = some (.int 8 t) := S.int 147 rfl
theorem g_MOST_EVENTS (S : Top K mg) : ∃ t, mg "MOST_EVENTS" = some (.int 60 t) := S.int 148 rfl
theorem g_NO_NAMES (S : Top K mg) : mg "NO_NAMES" = some (.ref (He.ga K "NO_NAMES")) := S.glo 149 rfl
theorem g_NUMBERS (S : Top K mg) : mg "NUMBERS" = some (.ref (He.ga K "NUMBERS")) := S.glo 150 rfl
theorem g_MOST_BYTES (S : Top K mg) : ∃ t, mg "MOST_BYTES" = some (.int 2000 t) := S.int 151 rfl
theorem g_LAST_BYTE (S : Top K mg) : ∃ t, mg "LAST_BYTE" = some (.int 255 t) := S.int 152 rfl
theorem g_MOST_LOCKS (S : Top K mg) : ∃ t, mg "MOST_LOCKS" = some (.int 100 t) := S.int 153 rfl
theorem g_LAST_COMPANY (S : Top K mg) : ∃ t, mg "LAST_COMPANY" = some (.int 63 t) := S.int 154 rfl
theorem g_GREATEST_WEIGHT (S : Top K mg) : ∃ t, mg "GREATEST_WEIGHT" = some (.int 1000 t) := S.int 155 rfl
theorem g_GREATEST_SOUGHT (S : Top K mg) : ∃ t, mg "GREATEST_SOUGHT" = some (.int 5 t) := S.int 156 rfl
theorem g_ORDERS (S : Top K mg) : mg "ORDERS" = some (.ref (He.ga K "ORDERS")) := S.glo 157 rfl
theorem g_Search (S : Top K mg) : mg "Search" = some (.ref (He.ga K "Search")) := S.glo 158 rfl
theorem g_ANSWERERS (S : Top K mg) : mg "ANSWERERS" = some (.ref (He.ga K "ANSWERERS")) := S.glo 159 rfl
theorem g_WITH_LIST (S : Top K mg) : mg "WITH_LIST" = some (.ref (He.ga K "WITH_LIST")) := S.glo 160 rfl
theorem g_WITH_NUMBER (S : Top K mg) : mg "WITH_NUMBER" = some (.ref (He.ga K "WITH_NUMBER")) := S.glo 161 rfl
theorem g_WITH_TWO_NUMBERS (S : Top K mg) : mg "WITH_TWO_NUMBERS" = some (.ref (He.ga K "WITH_TWO_NUMBERS")) := S.glo 162 rfl
theorem n_Exception (S : Top K mg) : mg "Exception" = none := S.free 163 rfl
theorem n_all (S : Top K mg) : mg "all" = none := S.free 164 rfl
theorem n_enumerate (S : Top K mg) : mg "enumerate" = none := S.free 165 rfl
theorem n_int (S : Top K mg) : mg "int" = none := S.free 166 rfl
theorem n_len (S : Top K mg) : mg "len" = none := S.free 167 rfl
theorem n_list (S : Top K mg) : mg "list" = none := S.free 168 rfl
theorem n_max (S : Top K mg) : mg "max" = none := S.free 169 rfl
theorem n_min (S : Top K mg) : mg "min" = none := S.free 170 rfl
theorem n_ord (S : Top K mg) : mg "ord" = none := S.free 171 rfl
theorem n_range (S : Top K mg) : mg "range" = none := S.free 172 rfl
theorem n_sum (S : Top K mg) : mg "sum" = none := S.free 173 rfl
theorem n_zip (S : Top K mg) : mg "zip" = none := S.free 174 rfl
theorem cl_Event (S : Top K mg) : Cls K (He.ga K "Event") := He.cls_ok (x := "Event") (S.fact 175 rfl)
theorem mk_Event (S : Top K mg) : Mk K (He.ga K "Event") (He.ma K (He.ga K "Event") "__init__") := He.mkr_ok (x := "Event") (S.fact 176 rfl)
theorem na_Event_kind (S : Top K mg) : NoAttr K (He.ga K "Event") "kind" := He.noat_ok (x := "Event") (f := "kind") (S.fact 177 rfl)
theorem na_Event_officers (S : Top K mg) : NoAttr K (He.ga K "Event") "officers" := He.noat_ok (x := "Event") (f := "officers") (S.fact 178 rfl)
theorem cl_Hall (S : Top K mg) : Cls K (He.ga K "Hall") := He.cls_ok (x := "Hall") (S.fact 179 rfl)
theorem mk_Hall (S : Top K mg) : Mk K (He.ga K "Hall") (He.ma K (He.ga K "Hall") "__init__") := He.mkr_ok (x := "Hall") (S.fact 180 rfl)
theorem na_Hall_there (S : Top K mg) : NoAttr K (He.ga K "Hall") "there" := He.noat_ok (x := "Hall") (f := "there") (S.fact 181 rfl)
theorem na_Hall_dead (S : Top K mg) : NoAttr K (He.ga K "Hall") "dead" := He.noat_ok (x := "Hall") (f := "dead") (S.fact 182 rfl)
theorem na_Hall_pairs (S : Top K mg) : NoAttr K (He.ga K "Hall") "pairs" := He.noat_ok (x := "Hall") (f := "pairs") (S.fact 183 rfl)
theorem cl_Rule (S : Top K mg) : Cls K (He.ga K "Rule") := He.cls_ok (x := "Rule") (S.fact 184 rfl)
theorem mk_Rule (S : Top K mg) : Mk K (He.ga K "Rule") (He.ma K (He.ga K "Rule") "__init__") := He.mkr_ok (x := "Rule") (S.fact 185 rfl)
theorem na_Rule_joined_by (S : Top K mg) : NoAttr K (He.ga K "Rule") "joined_by" := He.noat_ok (x := "Rule") (f := "joined_by") (S.fact 186 rfl)
theorem na_Rule_text (S : Top K mg) : NoAttr K (He.ga K "Rule") "text" := He.noat_ok (x := "Rule") (f := "text") (S.fact 187 rfl)
theorem na_Rule_allowed (S : Top K mg) : NoAttr K (He.ga K "Rule") "allowed" := He.noat_ok (x := "Rule") (f := "allowed") (S.fact 188 rfl)
theorem cl_Record (S : Top K mg) : Cls K (He.ga K "Record") := He.cls_ok (x := "Record") (S.fact 189 rfl)
theorem mk_Record (S : Top K mg) : Mk K (He.ga K "Record") (He.ma K (He.ga K "Record") "__init__") := He.mkr_ok (x := "Record") (S.fact 190 rfl)
theorem na_Record_names (S : Top K mg) : NoAttr K (He.ga K "Record") "names" := He.noat_ok (x := "Record") (f := "names") (S.fact 191 rfl)
theorem na_Record_rule (S : Top K mg) : NoAttr K (He.ga K "Record") "rule" := He.noat_ok (x := "Record") (f := "rule") (S.fact 192 rfl)
theorem na_Record_events (S : Top K mg) : NoAttr K (He.ga K "Record") "events" := He.noat_ok (x := "Record") (f := "events") (S.fact 193 rfl)
theorem me_Record_become (S : Top K mg) : Meth K (He.ga K "Record") "become" (He.ma K (He.ga K "Record") "become") := He.meth_ok (x := "Record") (m := "become") (S.fact 194 rfl)
theorem cl_Word (S : Top K mg) : Cls K (He.ga K "Word") := He.cls_ok (x := "Word") (S.fact 195 rfl)
theorem mk_Word (S : Top K mg) : Mk K (He.ga K "Word") (He.ma K (He.ga K "Word") "__init__") := He.mkr_ok (x := "Word") (S.fact 196 rfl)
theorem na_Word_spelled (S : Top K mg) : NoAttr K (He.ga K "Word") "spelled" := He.noat_ok (x := "Word") (f := "spelled") (S.fact 197 rfl)
theorem na_Word_place (S : Top K mg) : NoAttr K (He.ga K "Word") "place" := He.noat_ok (x := "Word") (f := "place") (S.fact 198 rfl)
theorem cl_Reader (S : Top K mg) : Cls K (He.ga K "Reader") := He.cls_ok (x := "Reader") (S.fact 199 rfl)
theorem mk_Reader (S : Top K mg) : Mk K (He.ga K "Reader") (He.ma K (He.ga K "Reader") "__init__") := He.mkr_ok (x := "Reader") (S.fact 200 rfl)
theorem na_Reader_words (S : Top K mg) : NoAttr K (He.ga K "Reader") "words" := He.noat_ok (x := "Reader") (f := "words") (S.fact 201 rfl)
theorem na_Reader_position (S : Top K mg) : NoAttr K (He.ga K "Reader") "position" := He.noat_ok (x := "Reader") (f := "position") (S.fact 202 rfl)
theorem me_Reader_shown (S : Top K mg) : Meth K (He.ga K "Reader") "shown" (He.ma K (He.ga K "Reader") "shown") := He.meth_ok (x := "Reader") (m := "shown") (S.fact 203 rfl)
theorem me_Reader_at_end (S : Top K mg) : Meth K (He.ga K "Reader") "at_end" (He.ma K (He.ga K "Reader") "at_end") := He.meth_ok (x := "Reader") (m := "at_end") (S.fact 204 rfl)
theorem me_Reader_go_on (S : Top K mg) : Meth K (He.ga K "Reader") "go_on" (He.ma K (He.ga K "Reader") "go_on") := He.meth_ok (x := "Reader") (m := "go_on") (S.fact 205 rfl)
theorem me_Reader_refuse (S : Top K mg) : Meth K (He.ga K "Reader") "refuse" (He.ma K (He.ga K "Reader") "refuse") := He.meth_ok (x := "Reader") (m := "refuse") (S.fact 206 rfl)
theorem me_Reader_expect (S : Top K mg) : Meth K (He.ga K "Reader") "expect" (He.ma K (He.ga K "Reader") "expect") := He.meth_ok (x := "Reader") (m := "expect") (S.fact 207 rfl)
theorem me_Reader_finish (S : Top K mg) : Meth K (He.ga K "Reader") "finish" (He.ma K (He.ga K "Reader") "finish") := He.meth_ok (x := "Reader") (m := "finish") (S.fact 208 rfl)
theorem cl_Search (S : Top K mg) : Cls K (He.ga K "Search") := He.cls_ok (x := "Search") (S.fact 209 rfl)
theorem mk_Search (S : Top K mg) : Mk K (He.ga K "Search") (He.ma K (He.ga K "Search") "__init__") := He.mkr_ok (x := "Search") (S.fact 210 rfl)
theorem na_Search_least (S : Top K mg) : NoAttr K (He.ga K "Search") "least" := He.noat_ok (x := "Search") (f := "least") (S.fact 211 rfl)
theorem na_Search_forbidden (S : Top K mg) : NoAttr K (He.ga K "Search") "forbidden" := He.noat_ok (x := "Search") (f := "forbidden") (S.fact 212 rfl)
theorem na_Search_officers (S : Top K mg) : NoAttr K (He.ga K "Search") "officers" := He.noat_ok (x := "Search") (f := "officers") (S.fact 213 rfl)
theorem na_Search_most (S : Top K mg) : NoAttr K (He.ga K "Search") "most" := He.noat_ok (x := "Search") (f := "most") (S.fact 214 rfl)
theorem me_Search_first_behind (S : Top K mg) : Meth K (He.ga K "Search") "first_behind" (He.ma K (He.ga K "Search") "first_behind") := He.meth_ok (x := "Search") (m := "first_behind") (S.fact 215 rfl)
theorem tu_POWERS (S : Top K mg) (H : Hp) : SqT K H (He.ga K "POWERS") (t_POWERS.map (He.Dv.v K)) := by
  have h := S.p1.2.2.1
  unfold tupsB at h
  simp only [Bool.and_eq_true] at h
  exact He.tupB_ok (by simp only [h]) H
theorem tu_NO_NAMES (S : Top K mg) (H : Hp) : SqT K H (He.ga K "NO_NAMES") (t_NO_NAMES.map (He.Dv.v K)) := by
  have h := S.p1.2.2.1
  unfold tupsB at h
  simp only [Bool.and_eq_true] at h
  exact He.tupB_ok (by simp only [h]) H
theorem tu_NUMBERS (S : Top K mg) (H : Hp) : SqT K H (He.ga K "NUMBERS") (t_NUMBERS.map (He.Dv.v K)) := by
  have h := S.p1.2.2.1
  unfold tupsB at h
  simp only [Bool.and_eq_true] at h
  exact He.tupB_ok (by simp only [h]) H
theorem tu_ORDERS (S : Top K mg) (H : Hp) : SqT K H (He.ga K "ORDERS") (t_ORDERS.map (He.Dv.v K)) := by
  have h := S.p1.2.2.1
  unfold tupsB at h
  simp only [Bool.and_eq_true] at h
  exact He.tupB_ok (by simp only [h]) H
theorem tu_ANSWERERS (S : Top K mg) (H : Hp) : SqT K H (He.ga K "ANSWERERS") (t_ANSWERERS.map (He.Dv.v K)) := by
  have h := S.p1.2.2.1
  unfold tupsB at h
  simp only [Bool.and_eq_true] at h
  exact He.tupB_ok (by simp only [h]) H
theorem tu_WITH_LIST (S : Top K mg) (H : Hp) : SqT K H (He.ga K "WITH_LIST") (t_WITH_LIST.map (He.Dv.v K)) := by
  have h := S.p1.2.2.1
  unfold tupsB at h
  simp only [Bool.and_eq_true] at h
  exact He.tupB_ok (by simp only [h]) H
theorem tu_WITH_NUMBER (S : Top K mg) (H : Hp) : SqT K H (He.ga K "WITH_NUMBER") (t_WITH_NUMBER.map (He.Dv.v K)) := by
  have h := S.p1.2.2.1
  unfold tupsB at h
  simp only [Bool.and_eq_true] at h
  exact He.tupB_ok (by simp only [h]) H
theorem tu_WITH_TWO_NUMBERS (S : Top K mg) (H : Hp) : SqT K H (He.ga K "WITH_TWO_NUMBERS") (t_WITH_TWO_NUMBERS.map (He.Dv.v K)) := by
  have h := S.p1.2.2.1
  unfold tupsB at h
  simp only [Bool.and_eq_true] at h
  exact He.tupB_ok (by simp only [h]) H
theorem fn_alone (S : Top K mg) : ∃ fd, FunD K "alone" "alone" (defArgs s_alone) (defBody s_alone) (defScope s_alone) [] [] (He.ga K "alone") fd := S.fn 0 (d := d_alone) rfl
theorem fn_all_companies (S : Top K mg) : ∃ fd, FunD K "all_companies" "all_companies" (defArgs s_all_companies) (defBody s_all_companies) (defScope s_all_companies) [] [] (He.ga K "all_companies") fd := S.fn 1 (d := d_all_companies) rfl
theorem fn_has (S : Top K mg) : ∃ fd, FunD K "has" "has" (defArgs s_has) (defBody s_has) (defScope s_has) [] [] (He.ga K "has") fd := S.fn 2 (d := d_has) rfl
theorem fn_size (S : Top K mg) : ∃ fd, FunD K "size" "size" (defArgs s_size) (defBody s_size) (defScope s_size) [] [] (He.ga K "size") fd := S.fn 3 (d := d_size) rfl
theorem fn_is_least (S : Top K mg) : ∃ fd, FunD K "is_least" "is_least" (defArgs s_is_least) (defBody s_is_least) (defScope s_is_least) [] [] (He.ga K "is_least") fd := S.fn 4 (d := d_is_least) rfl
theorem fn_is_greatest_forbidden (S : Top K mg) : ∃ fd, FunD K "is_greatest_forbidden" "is_greatest_forbidden" (defArgs s_is_greatest_forbidden) (defBody s_is_greatest_forbidden) (defScope s_is_greatest_forbidden) [] [] (He.ga K "is_greatest_forbidden") fd := S.fn 5 (d := d_is_greatest_forbidden) rfl
theorem fn_least_companies (S : Top K mg) : ∃ fd, FunD K "least_companies" "least_companies" (defArgs s_least_companies) (defBody s_least_companies) (defScope s_least_companies) [] [] (He.ga K "least_companies") fd := S.fn 6 (d := d_least_companies) rfl
theorem fn_forbidden_companies (S : Top K mg) : ∃ fd, FunD K "forbidden_companies" "forbidden_companies" (defArgs s_forbidden_companies) (defBody s_forbidden_companies) (defScope s_forbidden_companies) [] [] (He.ga K "forbidden_companies") fd := S.fn 7 (d := d_forbidden_companies) rfl
theorem fn_rule_locks (S : Top K mg) : ∃ fd, FunD K "rule_locks" "rule_locks" (defArgs s_rule_locks) (defBody s_rule_locks) (defScope s_rule_locks) [] [] (He.ga K "rule_locks") fd := S.fn 8 (d := d_rule_locks) rfl
theorem fn_key_count (S : Top K mg) : ∃ fd, FunD K "key_count" "key_count" (defArgs s_key_count) (defBody s_key_count) (defScope s_key_count) [] [] (He.ga K "key_count") fd := S.fn 9 (d := d_key_count) rfl
theorem fn_can_unlock (S : Top K mg) : ∃ fd, FunD K "can_unlock" "can_unlock" (defArgs s_can_unlock) (defBody s_can_unlock) (defScope s_can_unlock) [] [] (He.ga K "can_unlock") fd := S.fn 10 (d := d_can_unlock) rfl
theorem fn_allowed_by_locks (S : Top K mg) : ∃ fd, FunD K "allowed_by_locks" "allowed_by_locks" (defArgs s_allowed_by_locks) (defBody s_allowed_by_locks) (defScope s_allowed_by_locks) [] [] (He.ga K "allowed_by_locks") fd := S.fn 11 (d := d_allowed_by_locks) rfl
theorem fn_where_otherwise (S : Top K mg) : ∃ fd, FunD K "where_otherwise" "where_otherwise" (defArgs s_where_otherwise) (defBody s_where_otherwise) (defScope s_where_otherwise) [] [] (He.ga K "where_otherwise") fd := S.fn 12 (d := d_where_otherwise) rfl
theorem fn_swings (S : Top K mg) : ∃ fd, FunD K "swings" "swings" (defArgs s_swings) (defBody s_swings) (defScope s_swings) [] [] (He.ga K "swings") fd := S.fn 13 (d := d_swings) rfl
theorem fn_swing_count (S : Top K mg) : ∃ fd, FunD K "swing_count" "swing_count" (defArgs s_swing_count) (defBody s_swing_count) (defScope s_swing_count) [] [] (He.ga K "swing_count") fd := S.fn 14 (d := d_swing_count) rfl
theorem fn_Event_init (S : Top K mg) : ∃ fd, FunD K "__init__" "Event.__init__" (defArgs s_Event_init) (defBody s_Event_init) (defScope s_Event_init) [] [] (He.ma K (He.ga K "Event") "__init__") fd := S.fn 15 (d := d_Event_init) rfl
theorem fn_Hall_init (S : Top K mg) : ∃ fd, FunD K "__init__" "Hall.__init__" (defArgs s_Hall_init) (defBody s_Hall_init) (defScope s_Hall_init) [] [] (He.ma K (He.ga K "Hall") "__init__") fd := S.fn 16 (d := d_Hall_init) rfl
theorem fn_with_those_stood_for (S : Top K mg) : ∃ fd, FunD K "with_those_stood_for" "with_those_stood_for" (defArgs s_with_those_stood_for) (defBody s_with_those_stood_for) (defScope s_with_those_stood_for) [] [] (He.ga K "with_those_stood_for") fd := S.fn 17 (d := d_with_those_stood_for) rfl
theorem fn_those_who_act (S : Top K mg) : ∃ fd, FunD K "those_who_act" "those_who_act" (defArgs s_those_who_act) (defBody s_those_who_act) (defScope s_those_who_act) [] [] (He.ga K "those_who_act") fd := S.fn 18 (d := d_those_who_act) rfl
theorem fn_may_stand (S : Top K mg) : ∃ fd, FunD K "may_stand" "may_stand" (defArgs s_may_stand) (defBody s_may_stand) (defScope s_may_stand) [] [] (He.ga K "may_stand") fd := S.fn 19 (d := d_may_stand) rfl
theorem fn_may_be (S : Top K mg) : ∃ fd, FunD K "may_be" "may_be" (defArgs s_may_be) (defBody s_may_be) (defScope s_may_be) [] [] (He.ga K "may_be") fd := S.fn 20 (d := d_may_be) rfl
theorem fn_bury (S : Top K mg) : ∃ fd, FunD K "bury" "bury" (defArgs s_bury) (defBody s_bury) (defScope s_bury) [] [] (He.ga K "bury") fd := S.fn 21 (d := d_bury) rfl
theorem fn_happen (S : Top K mg) : ∃ fd, FunD K "happen" "happen" (defArgs s_happen) (defBody s_happen) (defScope s_happen) [] [] (He.ga K "happen") fd := S.fn 22 (d := d_happen) rfl
theorem fn_hall_behind (S : Top K mg) : ∃ fd, FunD K "hall_behind" "hall_behind" (defArgs s_hall_behind) (defBody s_hall_behind) (defScope s_hall_behind) [] [] (He.ga K "hall_behind") fd := S.fn 23 (d := d_hall_behind) rfl
theorem fn_unlockings (S : Top K mg) : ∃ fd, FunD K "unlockings" "unlockings" (defArgs s_unlockings) (defBody s_unlockings) (defScope s_unlockings) [] [] (He.ga K "unlockings") fd := S.fn 24 (d := d_unlockings) rfl
theorem fn_event_text (S : Top K mg) : ∃ fd, FunD K "event_text" "event_text" (defArgs s_event_text) (defBody s_event_text) (defScope s_event_text) [] [] (He.ga K "event_text") fd := S.fn 25 (d := d_event_text) rfl
theorem fn_Rule_init (S : Top K mg) : ∃ fd, FunD K "__init__" "Rule.__init__" (defArgs s_Rule_init) (defBody s_Rule_init) (defScope s_Rule_init) [] [] (He.ma K (He.ga K "Rule") "__init__") fd := S.fn 26 (d := d_Rule_init) rfl
theorem fn_anybody_rule (S : Top K mg) : ∃ fd, FunD K "anybody_rule" "anybody_rule" (defArgs s_anybody_rule) (defBody s_anybody_rule) (defScope s_anybody_rule) [] [] (He.ga K "anybody_rule") fd := S.fn 27 (d := d_anybody_rule) rfl
theorem fn_nobody_rule (S : Top K mg) : ∃ fd, FunD K "nobody_rule" "nobody_rule" (defArgs s_nobody_rule) (defBody s_nobody_rule) (defScope s_nobody_rule) [] [] (He.ga K "nobody_rule") fd := S.fn 28 (d := d_nobody_rule) rfl
theorem fn_officer_rule (S : Top K mg) : ∃ fd, FunD K "officer_rule" "officer_rule" (defArgs s_officer_rule) (defBody s_officer_rule) (defScope s_officer_rule) [] [] (He.ga K "officer_rule") fd := S.fn 29 (d := d_officer_rule) rfl
theorem fn_so_many_rule (S : Top K mg) : ∃ fd, FunD K "so_many_rule" "so_many_rule" (defArgs s_so_many_rule) (defBody s_so_many_rule) (defScope s_so_many_rule) [] [] (He.ga K "so_many_rule") fd := S.fn 30 (d := d_so_many_rule) rfl
theorem fn_how_many_in (S : Top K mg) : ∃ fd, FunD K "how_many_in" "how_many_in" (defArgs s_how_many_in) (defBody s_how_many_in) (defScope s_how_many_in) [] [] (He.ga K "how_many_in") fd := S.fn 31 (d := d_how_many_in) rfl
theorem fn_and_rule (S : Top K mg) : ∃ fd, FunD K "and_rule" "and_rule" (defArgs s_and_rule) (defBody s_and_rule) (defScope s_and_rule) [] [] (He.ga K "and_rule") fd := S.fn 32 (d := d_and_rule) rfl
theorem fn_or_rule (S : Top K mg) : ∃ fd, FunD K "or_rule" "or_rule" (defArgs s_or_rule) (defBody s_or_rule) (defScope s_or_rule) [] [] (He.ga K "or_rule") fd := S.fn 33 (d := d_or_rule) rfl
theorem fn_in_brackets (S : Top K mg) : ∃ fd, FunD K "in_brackets" "in_brackets" (defArgs s_in_brackets) (defBody s_in_brackets) (defScope s_in_brackets) [] [] (He.ga K "in_brackets") fd := S.fn 34 (d := d_in_brackets) rfl
theorem fn_Record_init (S : Top K mg) : ∃ fd, FunD K "__init__" "Record.__init__" (defArgs s_Record_init) (defBody s_Record_init) (defScope s_Record_init) [] [] (He.ma K (He.ga K "Record") "__init__") fd := S.fn 35 (d := d_Record_init) rfl
theorem fn_Record_become (S : Top K mg) : ∃ fd, FunD K "become" "Record.become" (defArgs s_Record_become) (defBody s_Record_become) (defScope s_Record_become) [] [] (He.ma K (He.ga K "Record") "become") fd := S.fn 36 (d := d_Record_become) rfl
theorem fn_new_record (S : Top K mg) : ∃ fd, FunD K "new_record" "new_record" (defArgs s_new_record) (defBody s_new_record) (defScope s_new_record) [] [] (He.ga K "new_record") fd := S.fn 37 (d := d_new_record) rfl
theorem fn_one_text (S : Top K mg) : ∃ fd, FunD K "one_text" "one_text" (defArgs s_one_text) (defBody s_one_text) (defScope s_one_text) [] [] (He.ga K "one_text") fd := S.fn 38 (d := d_one_text) rfl
theorem fn_Refusal_init (S : Top K mg) : ∃ fd, FunD K "__init__" "Refusal.__init__" (defArgs s_Refusal_init) (defBody s_Refusal_init) (defScope s_Refusal_init) [] [] (He.ma K (He.ga K "Refusal") "__init__") fd := S.fn 39 (d := d_Refusal_init) rfl
theorem fn_NoCall_init (S : Top K mg) : ∃ fd, FunD K "__init__" "NoCall.__init__" (defArgs s_NoCall_init) (defBody s_NoCall_init) (defScope s_NoCall_init) [] [] (He.ma K (He.ga K "NoCall") "__init__") fd := S.fn 40 (d := d_NoCall_init) rfl
theorem fn_WrongBytes_init (S : Top K mg) : ∃ fd, FunD K "__init__" "WrongBytes.__init__" (defArgs s_WrongBytes_init) (defBody s_WrongBytes_init) (defScope s_WrongBytes_init) [] [] (He.ma K (He.ga K "WrongBytes") "__init__") fd := S.fn 41 (d := d_WrongBytes_init) rfl
theorem fn_OutOfRange_init (S : Top K mg) : ∃ fd, FunD K "__init__" "OutOfRange.__init__" (defArgs s_OutOfRange_init) (defBody s_OutOfRange_init) (defScope s_OutOfRange_init) [] [] (He.ma K (He.ga K "OutOfRange") "__init__") fd := S.fn 42 (d := d_OutOfRange_init) rfl
theorem fn_WrongList_init (S : Top K mg) : ∃ fd, FunD K "__init__" "WrongList.__init__" (defArgs s_WrongList_init) (defBody s_WrongList_init) (defScope s_WrongList_init) [] [] (He.ma K (He.ga K "WrongList") "__init__") fd := S.fn 43 (d := d_WrongList_init) rfl
theorem fn_NotThere_init (S : Top K mg) : ∃ fd, FunD K "__init__" "NotThere.__init__" (defArgs s_NotThere_init) (defBody s_NotThere_init) (defScope s_NotThere_init) [] [] (He.ma K (He.ga K "NotThere") "__init__") fd := S.fn 44 (d := d_NotThere_init) rfl
theorem fn_HasEvents_init (S : Top K mg) : ∃ fd, FunD K "__init__" "HasEvents.__init__" (defArgs s_HasEvents_init) (defBody s_HasEvents_init) (defScope s_HasEvents_init) [] [] (He.ma K (He.ga K "HasEvents") "__init__") fd := S.fn 45 (d := d_HasEvents_init) rfl
theorem fn_Fault_init (S : Top K mg) : ∃ fd, FunD K "__init__" "Fault.__init__" (defArgs s_Fault_init) (defBody s_Fault_init) (defScope s_Fault_init) [] [] (He.ma K (He.ga K "Fault") "__init__") fd := S.fn 46 (d := d_Fault_init) rfl
theorem fn_Word_init (S : Top K mg) : ∃ fd, FunD K "__init__" "Word.__init__" (defArgs s_Word_init) (defBody s_Word_init) (defScope s_Word_init) [] [] (He.ma K (He.ga K "Word") "__init__") fd := S.fn 47 (d := d_Word_init) rfl
theorem fn_sign_of (S : Top K mg) : ∃ fd, FunD K "sign_of" "sign_of" (defArgs s_sign_of) (defBody s_sign_of) (defScope s_sign_of) [] [] (He.ga K "sign_of") fd := S.fn 48 (d := d_sign_of) rfl
theorem fn_spell (S : Top K mg) : ∃ fd, FunD K "spell" "spell" (defArgs s_spell) (defBody s_spell) (defScope s_spell) [] [] (He.ga K "spell") fd := S.fn 49 (d := d_spell) rfl
theorem fn_split_words (S : Top K mg) : ∃ fd, FunD K "split_words" "split_words" (defArgs s_split_words) (defBody s_split_words) (defScope s_split_words) [] [] (He.ga K "split_words") fd := S.fn 50 (d := d_split_words) rfl
theorem fn_Reader_init (S : Top K mg) : ∃ fd, FunD K "__init__" "Reader.__init__" (defArgs s_Reader_init) (defBody s_Reader_init) (defScope s_Reader_init) [] [] (He.ma K (He.ga K "Reader") "__init__") fd := S.fn 51 (d := d_Reader_init) rfl
theorem fn_Reader_shown (S : Top K mg) : ∃ fd, FunD K "shown" "Reader.shown" (defArgs s_Reader_shown) (defBody s_Reader_shown) (defScope s_Reader_shown) [] [] (He.ma K (He.ga K "Reader") "shown") fd := S.fn 52 (d := d_Reader_shown) rfl
theorem fn_Reader_at_end (S : Top K mg) : ∃ fd, FunD K "at_end" "Reader.at_end" (defArgs s_Reader_at_end) (defBody s_Reader_at_end) (defScope s_Reader_at_end) [] [] (He.ma K (He.ga K "Reader") "at_end") fd := S.fn 53 (d := d_Reader_at_end) rfl
theorem fn_Reader_go_on (S : Top K mg) : ∃ fd, FunD K "go_on" "Reader.go_on" (defArgs s_Reader_go_on) (defBody s_Reader_go_on) (defScope s_Reader_go_on) [] [] (He.ma K (He.ga K "Reader") "go_on") fd := S.fn 54 (d := d_Reader_go_on) rfl
theorem fn_Reader_refuse (S : Top K mg) : ∃ fd, FunD K "refuse" "Reader.refuse" (defArgs s_Reader_refuse) (defBody s_Reader_refuse) (defScope s_Reader_refuse) [] [] (He.ma K (He.ga K "Reader") "refuse") fd := S.fn 55 (d := d_Reader_refuse) rfl
theorem fn_Reader_expect (S : Top K mg) : ∃ fd, FunD K "expect" "Reader.expect" (defArgs s_Reader_expect) (defBody s_Reader_expect) (defScope s_Reader_expect) [] [] (He.ma K (He.ga K "Reader") "expect") fd := S.fn 56 (d := d_Reader_expect) rfl
theorem fn_Reader_finish (S : Top K mg) : ∃ fd, FunD K "finish" "Reader.finish" (defArgs s_Reader_finish) (defBody s_Reader_finish) (defScope s_Reader_finish) [] [] (He.ma K (He.ga K "Reader") "finish") fd := S.fn 57 (d := d_Reader_finish) rfl
theorem fn_is_name (S : Top K mg) : ∃ fd, FunD K "is_name" "is_name" (defArgs s_is_name) (defBody s_is_name) (defScope s_is_name) [] [] (He.ga K "is_name") fd := S.fn 58 (d := d_is_name) rfl
theorem fn_can_be_told (S : Top K mg) : ∃ fd, FunD K "can_be_told" "can_be_told" (defArgs s_can_be_told) (defBody s_can_be_told) (defScope s_can_be_told) [] [] (He.ga K "can_be_told") fd := S.fn 59 (d := d_can_be_told) rfl
theorem fn_read_names (S : Top K mg) : ∃ fd, FunD K "read_names" "read_names" (defArgs s_read_names) (defBody s_read_names) (defScope s_read_names) [] [] (He.ga K "read_names") fd := S.fn 60 (d := d_read_names) rfl
theorem fn_shown_officer (S : Top K mg) : ∃ fd, FunD K "shown_officer" "shown_officer" (defArgs s_shown_officer) (defBody s_shown_officer) (defScope s_shown_officer) [] [] (He.ga K "shown_officer") fd := S.fn 61 (d := d_shown_officer) rfl
theorem fn_read_officer (S : Top K mg) : ∃ fd, FunD K "read_officer" "read_officer" (defArgs s_read_officer) (defBody s_read_officer) (defScope s_read_officer) [] [] (He.ga K "read_officer") fd := S.fn 62 (d := d_read_officer) rfl
theorem fn_read_chosen (S : Top K mg) : ∃ fd, FunD K "read_chosen" "read_chosen" (defArgs s_read_chosen) (defBody s_read_chosen) (defScope s_read_chosen) [] [] (He.ga K "read_chosen") fd := S.fn 63 (d := d_read_chosen) rfl
theorem fn_read_so_many (S : Top K mg) : ∃ fd, FunD K "read_so_many" "read_so_many" (defArgs s_read_so_many) (defBody s_read_so_many) (defScope s_read_so_many) [] [] (He.ga K "read_so_many") fd := S.fn 64 (d := d_read_so_many) rfl
theorem fn_read_bracket (S : Top K mg) : ∃ fd, FunD K "read_bracket" "read_bracket" (defArgs s_read_bracket) (defBody s_read_bracket) (defScope s_read_bracket) [] [] (He.ga K "read_bracket") fd := S.fn 65 (d := d_read_bracket) rfl
theorem fn_read_one (S : Top K mg) : ∃ fd, FunD K "read_one" "read_one" (defArgs s_read_one) (defBody s_read_one) (defScope s_read_one) [] [] (He.ga K "read_one") fd := S.fn 66 (d := d_read_one) rfl
theorem fn_read_part (S : Top K mg) : ∃ fd, FunD K "read_part" "read_part" (defArgs s_read_part) (defBody s_read_part) (defScope s_read_part) [] [] (He.ga K "read_part") fd := S.fn 67 (d := d_read_part) rfl
theorem fn_read_rule (S : Top K mg) : ∃ fd, FunD K "read_rule" "read_rule" (defArgs s_read_rule) (defBody s_read_rule) (defScope s_read_rule) [] [] (He.ga K "read_rule") fd := S.fn 68 (d := d_read_rule) rfl
theorem fn_read_event_officers (S : Top K mg) : ∃ fd, FunD K "read_event_officers" "read_event_officers" (defArgs s_read_event_officers) (defBody s_read_event_officers) (defScope s_read_event_officers) [] [] (He.ga K "read_event_officers") fd := S.fn 69 (d := d_read_event_officers) rfl
theorem fn_read_event (S : Top K mg) : ∃ fd, FunD K "read_event" "read_event" (defArgs s_read_event) (defBody s_read_event) (defScope s_read_event) [] [] (He.ga K "read_event") fd := S.fn 70 (d := d_read_event) rfl
theorem fn_read_file (S : Top K mg) : ∃ fd, FunD K "read_file" "read_file" (defArgs s_read_file) (defBody s_read_file) (defScope s_read_file) [] [] (He.ga K "read_file") fd := S.fn 71 (d := d_read_file) rfl
theorem fn_read_one_rule (S : Top K mg) : ∃ fd, FunD K "read_one_rule" "read_one_rule" (defArgs s_read_one_rule) (defBody s_read_one_rule) (defScope s_read_one_rule) [] [] (He.ga K "read_one_rule") fd := S.fn 72 (d := d_read_one_rule) rfl
theorem fn_read_one_event (S : Top K mg) : ∃ fd, FunD K "read_one_event" "read_one_event" (defArgs s_read_one_event) (defBody s_read_one_event) (defScope s_read_one_event) [] [] (He.ga K "read_one_event") fd := S.fn 73 (d := d_read_one_event) rfl
theorem fn_check_range (S : Top K mg) : ∃ fd, FunD K "check_range" "check_range" (defArgs s_check_range) (defBody s_check_range) (defScope s_check_range) [] [] (He.ga K "check_range") fd := S.fn 74 (d := d_check_range) rfl
theorem fn_check_company (S : Top K mg) : ∃ fd, FunD K "check_company" "check_company" (defArgs s_check_company) (defBody s_check_company) (defScope s_check_company) [] [] (He.ga K "check_company") fd := S.fn 75 (d := d_check_company) rfl
theorem fn_check_officer (S : Top K mg) : ∃ fd, FunD K "check_officer" "check_officer" (defArgs s_check_officer) (defBody s_check_officer) (defScope s_check_officer) [] [] (He.ga K "check_officer") fd := S.fn 76 (d := d_check_officer) rfl
theorem fn_check_how_many_events (S : Top K mg) : ∃ fd, FunD K "check_how_many_events" "check_how_many_events" (defArgs s_check_how_many_events) (defBody s_check_how_many_events) (defScope s_check_how_many_events) [] [] (He.ga K "check_how_many_events") fd := S.fn 77 (d := d_check_how_many_events) rfl
theorem fn_check_sought (S : Top K mg) : ∃ fd, FunD K "check_sought" "check_sought" (defArgs s_check_sought) (defBody s_check_sought) (defScope s_check_sought) [] [] (He.ga K "check_sought") fd := S.fn 78 (d := d_check_sought) rfl
theorem fn_check_bytes (S : Top K mg) : ∃ fd, FunD K "check_bytes" "check_bytes" (defArgs s_check_bytes) (defBody s_check_bytes) (defScope s_check_bytes) [] [] (He.ga K "check_bytes") fd := S.fn 79 (d := d_check_bytes) rfl
theorem fn_check_locks (S : Top K mg) : ∃ fd, FunD K "check_locks" "check_locks" (defArgs s_check_locks) (defBody s_check_locks) (defScope s_check_locks) [] [] (He.ga K "check_locks") fd := S.fn 80 (d := d_check_locks) rfl
theorem fn_check_weights (S : Top K mg) : ∃ fd, FunD K "check_weights" "check_weights" (defArgs s_check_weights) (defBody s_check_weights) (defScope s_check_weights) [] [] (He.ga K "check_weights") fd := S.fn 81 (d := d_check_weights) rfl
theorem fn_swung_orders (S : Top K mg) : ∃ fd, FunD K "swung_orders" "swung_orders" (defArgs s_swung_orders) (defBody s_swung_orders) (defScope s_swung_orders) [] [] (He.ga K "swung_orders") fd := S.fn 82 (d := d_swung_orders) rfl
theorem fn_greatest_divisor (S : Top K mg) : ∃ fd, FunD K "greatest_divisor" "greatest_divisor" (defArgs s_greatest_divisor) (defBody s_greatest_divisor) (defScope s_greatest_divisor) [] [] (He.ga K "greatest_divisor") fd := S.fn 83 (d := d_greatest_divisor) rfl
theorem fn_officer_power (S : Top K mg) : ∃ fd, FunD K "officer_power" "officer_power" (defArgs s_officer_power) (defBody s_officer_power) (defScope s_officer_power) [] [] (He.ga K "officer_power") fd := S.fn 84 (d := d_officer_power) rfl
theorem fn_idle_officers (S : Top K mg) : ∃ fd, FunD K "idle_officers" "idle_officers" (defArgs s_idle_officers) (defBody s_idle_officers) (defScope s_idle_officers) [] [] (He.ga K "idle_officers") fd := S.fn 85 (d := d_idle_officers) rfl
theorem fn_exchanged (S : Top K mg) : ∃ fd, FunD K "exchanged" "exchanged" (defArgs s_exchanged) (defBody s_exchanged) (defScope s_exchanged) [] [] (He.ga K "exchanged") fd := S.fn 86 (d := d_exchanged) rfl
theorem fn_are_alike (S : Top K mg) : ∃ fd, FunD K "are_alike" "are_alike" (defArgs s_are_alike) (defBody s_are_alike) (defScope s_are_alike) [] [] (He.ga K "are_alike") fd := S.fn 87 (d := d_are_alike) rfl
theorem fn_least_hindering (S : Top K mg) : ∃ fd, FunD K "least_hindering" "least_hindering" (defArgs s_least_hindering) (defBody s_least_hindering) (defScope s_least_hindering) [] [] (He.ga K "least_hindering") fd := S.fn 88 (d := d_least_hindering) rfl
theorem fn_pairs_of (S : Top K mg) : ∃ fd, FunD K "pairs_of" "pairs_of" (defArgs s_pairs_of) (defBody s_pairs_of) (defScope s_pairs_of) [] [] (He.ga K "pairs_of") fd := S.fn 89 (d := d_pairs_of) rfl
theorem fn_together (S : Top K mg) : ∃ fd, FunD K "together" "together" (defArgs s_together) (defBody s_together) (defScope s_together) [] [] (He.ga K "together") fd := S.fn 90 (d := d_together) rfl
theorem fn_first_trade (S : Top K mg) : ∃ fd, FunD K "first_trade" "first_trade" (defArgs s_first_trade) (defBody s_first_trade) (defScope s_first_trade) [] [] (He.ga K "first_trade") fd := S.fn 91 (d := d_first_trade) rfl
theorem fn_company_weight (S : Top K mg) : ∃ fd, FunD K "company_weight" "company_weight" (defArgs s_company_weight) (defBody s_company_weight) (defScope s_company_weight) [] [] (He.ga K "company_weight") fd := S.fn 92 (d := d_company_weight) rfl
theorem fn_all_weigh_more (S : Top K mg) : ∃ fd, FunD K "all_weigh_more" "all_weigh_more" (defArgs s_all_weigh_more) (defBody s_all_weigh_more) (defScope s_all_weigh_more) [] [] (He.ga K "all_weigh_more") fd := S.fn 93 (d := d_all_weigh_more) rfl
theorem fn_tell_rule (S : Top K mg) : ∃ fd, FunD K "tell_rule" "tell_rule" (defArgs s_tell_rule) (defBody s_tell_rule) (defScope s_tell_rule) [] [] (He.ga K "tell_rule") fd := S.fn 94 (d := d_tell_rule) rfl
theorem fn_quota_of (S : Top K mg) : ∃ fd, FunD K "quota_of" "quota_of" (defArgs s_quota_of) (defBody s_quota_of) (defScope s_quota_of) [] [] (He.ga K "quota_of") fd := S.fn 95 (d := d_quota_of) rfl
theorem fn_moved (S : Top K mg) : ∃ fd, FunD K "moved" "moved" (defArgs s_moved) (defBody s_moved) (defScope s_moved) [] [] (He.ga K "moved") fd := S.fn 96 (d := d_moved) rfl
theorem fn_Search_init (S : Top K mg) : ∃ fd, FunD K "__init__" "Search.__init__" (defArgs s_Search_init) (defBody s_Search_init) (defScope s_Search_init) [] [] (He.ma K (He.ga K "Search") "__init__") fd := S.fn 97 (d := d_Search_init) rfl
theorem fn_Search_first_behind (S : Top K mg) : ∃ fd, FunD K "first_behind" "Search.first_behind" (defArgs s_Search_first_behind) (defBody s_Search_first_behind) (defScope s_Search_first_behind) [] [] (He.ma K (He.ga K "Search") "first_behind") fd := S.fn 98 (d := d_Search_first_behind) rfl
theorem fn_first_weights (S : Top K mg) : ∃ fd, FunD K "first_weights" "first_weights" (defArgs s_first_weights) (defBody s_first_weights) (defScope s_first_weights) [] [] (He.ga K "first_weights") fd := S.fn 99 (d := d_first_weights) rfl
theorem fn_counted (S : Top K mg) : ∃ fd, FunD K "counted" "counted" (defArgs s_counted) (defBody s_counted) (defScope s_counted) [] [] (He.ga K "counted") fd := S.fn 100 (d := d_counted) rfl
theorem fn_yes_or_no (S : Top K mg) : ∃ fd, FunD K "yes_or_no" "yes_or_no" (defArgs s_yes_or_no) (defBody s_yes_or_no) (defScope s_yes_or_no) [] [] (He.ga K "yes_or_no") fd := S.fn 101 (d := d_yes_or_no) rfl
theorem fn_same_or_first_otherwise (S : Top K mg) : ∃ fd, FunD K "same_or_first_otherwise" "same_or_first_otherwise" (defArgs s_same_or_first_otherwise) (defBody s_same_or_first_otherwise) (defScope s_same_or_first_otherwise) [] [] (He.ga K "same_or_first_otherwise") fd := S.fn 102 (d := d_same_or_first_otherwise) rfl
theorem fn_state_behind (S : Top K mg) : ∃ fd, FunD K "state_behind" "state_behind" (defArgs s_state_behind) (defBody s_state_behind) (defScope s_state_behind) [] [] (He.ga K "state_behind") fd := S.fn 103 (d := d_state_behind) rfl
theorem fn_record_least (S : Top K mg) : ∃ fd, FunD K "record_least" "record_least" (defArgs s_record_least) (defBody s_record_least) (defScope s_record_least) [] [] (He.ga K "record_least") fd := S.fn 104 (d := d_record_least) rfl
theorem fn_record_forbidden (S : Top K mg) : ∃ fd, FunD K "record_forbidden" "record_forbidden" (defArgs s_record_forbidden) (defBody s_record_forbidden) (defScope s_record_forbidden) [] [] (He.ga K "record_forbidden") fd := S.fn 105 (d := d_record_forbidden) rfl
theorem fn_record_locks (S : Top K mg) : ∃ fd, FunD K "record_locks" "record_locks" (defArgs s_record_locks) (defBody s_record_locks) (defScope s_record_locks) [] [] (He.ga K "record_locks") fd := S.fn 106 (d := d_record_locks) rfl
theorem fn_answer_clear (S : Top K mg) : ∃ fd, FunD K "answer_clear" "answer_clear" (defArgs s_answer_clear) (defBody s_answer_clear) (defScope s_answer_clear) [] [] (He.ga K "answer_clear") fd := S.fn 107 (d := d_answer_clear) rfl
theorem fn_answer_file (S : Top K mg) : ∃ fd, FunD K "answer_file" "answer_file" (defArgs s_answer_file) (defBody s_answer_file) (defScope s_answer_file) [] [] (He.ga K "answer_file") fd := S.fn 108 (d := d_answer_file) rfl
theorem fn_answer_look (S : Top K mg) : ∃ fd, FunD K "answer_look" "answer_look" (defArgs s_answer_look) (defBody s_answer_look) (defScope s_answer_look) [] [] (He.ga K "answer_look") fd := S.fn 109 (d := d_answer_look) rfl
theorem fn_answer_text (S : Top K mg) : ∃ fd, FunD K "answer_text" "answer_text" (defArgs s_answer_text) (defBody s_answer_text) (defScope s_answer_text) [] [] (He.ga K "answer_text") fd := S.fn 110 (d := d_answer_text) rfl
theorem fn_answer_event (S : Top K mg) : ∃ fd, FunD K "answer_event" "answer_event" (defArgs s_answer_event) (defBody s_answer_event) (defScope s_answer_event) [] [] (He.ga K "answer_event") fd := S.fn 111 (d := d_answer_event) rfl
theorem fn_answer_undo (S : Top K mg) : ∃ fd, FunD K "answer_undo" "answer_undo" (defArgs s_answer_undo) (defBody s_answer_undo) (defScope s_answer_undo) [] [] (He.ga K "answer_undo") fd := S.fn 112 (d := d_answer_undo) rfl
theorem fn_answer_told (S : Top K mg) : ∃ fd, FunD K "answer_told" "answer_told" (defArgs s_answer_told) (defBody s_answer_told) (defScope s_answer_told) [] [] (He.ga K "answer_told") fd := S.fn 113 (d := d_answer_told) rfl
theorem fn_answer_may (S : Top K mg) : ∃ fd, FunD K "answer_may" "answer_may" (defArgs s_answer_may) (defBody s_answer_may) (defScope s_answer_may) [] [] (He.ga K "answer_may") fd := S.fn 114 (d := d_answer_may) rfl
theorem fn_answer_least (S : Top K mg) : ∃ fd, FunD K "answer_least" "answer_least" (defArgs s_answer_least) (defBody s_answer_least) (defScope s_answer_least) [] [] (He.ga K "answer_least") fd := S.fn 115 (d := d_answer_least) rfl
theorem fn_answer_forbidden (S : Top K mg) : ∃ fd, FunD K "answer_forbidden" "answer_forbidden" (defArgs s_answer_forbidden) (defBody s_answer_forbidden) (defScope s_answer_forbidden) [] [] (He.ga K "answer_forbidden") fd := S.fn 116 (d := d_answer_forbidden) rfl
theorem fn_answer_locks (S : Top K mg) : ∃ fd, FunD K "answer_locks" "answer_locks" (defArgs s_answer_locks) (defBody s_answer_locks) (defScope s_answer_locks) [] [] (He.ga K "answer_locks") fd := S.fn 117 (d := d_answer_locks) rfl
theorem fn_answer_keys (S : Top K mg) : ∃ fd, FunD K "answer_keys" "answer_keys" (defArgs s_answer_keys) (defBody s_answer_keys) (defScope s_answer_keys) [] [] (He.ga K "answer_keys") fd := S.fn 118 (d := d_answer_keys) rfl
theorem fn_answer_scheme (S : Top K mg) : ∃ fd, FunD K "answer_scheme" "answer_scheme" (defArgs s_answer_scheme) (defBody s_answer_scheme) (defScope s_answer_scheme) [] [] (He.ga K "answer_scheme") fd := S.fn 119 (d := d_answer_scheme) rfl
theorem fn_answer_swings (S : Top K mg) : ∃ fd, FunD K "answer_swings" "answer_swings" (defArgs s_answer_swings) (defBody s_answer_swings) (defScope s_answer_swings) [] [] (He.ga K "answer_swings") fd := S.fn 120 (d := d_answer_swings) rfl
theorem fn_answer_power (S : Top K mg) : ∃ fd, FunD K "answer_power" "answer_power" (defArgs s_answer_power) (defBody s_answer_power) (defScope s_answer_power) [] [] (He.ga K "answer_power") fd := S.fn 121 (d := d_answer_power) rfl
theorem fn_answer_idle (S : Top K mg) : ∃ fd, FunD K "answer_idle" "answer_idle" (defArgs s_answer_idle) (defBody s_answer_idle) (defScope s_answer_idle) [] [] (He.ga K "answer_idle") fd := S.fn 122 (d := d_answer_idle) rfl
theorem fn_answer_alike (S : Top K mg) : ∃ fd, FunD K "answer_alike" "answer_alike" (defArgs s_answer_alike) (defBody s_answer_alike) (defScope s_answer_alike) [] [] (He.ga K "answer_alike") fd := S.fn 123 (d := d_answer_alike) rfl
theorem fn_answer_hinder (S : Top K mg) : ∃ fd, FunD K "answer_hinder" "answer_hinder" (defArgs s_answer_hinder) (defBody s_answer_hinder) (defScope s_answer_hinder) [] [] (He.ga K "answer_hinder") fd := S.fn 124 (d := d_answer_hinder) rfl
theorem fn_answer_without (S : Top K mg) : ∃ fd, FunD K "answer_without" "answer_without" (defArgs s_answer_without) (defBody s_answer_without) (defScope s_answer_without) [] [] (He.ga K "answer_without") fd := S.fn 125 (d := d_answer_without) rfl
theorem fn_answer_weights (S : Top K mg) : ∃ fd, FunD K "answer_weights" "answer_weights" (defArgs s_answer_weights) (defBody s_answer_weights) (defScope s_answer_weights) [] [] (He.ga K "answer_weights") fd := S.fn 126 (d := d_answer_weights) rfl
theorem fn_answer_weigh (S : Top K mg) : ∃ fd, FunD K "answer_weigh" "answer_weigh" (defArgs s_answer_weigh) (defBody s_answer_weigh) (defScope s_answer_weigh) [] [] (He.ga K "answer_weigh") fd := S.fn 127 (d := d_answer_weigh) rfl
theorem fn_answer_trade (S : Top K mg) : ∃ fd, FunD K "answer_trade" "answer_trade" (defArgs s_answer_trade) (defBody s_answer_trade) (defScope s_answer_trade) [] [] (He.ga K "answer_trade") fd := S.fn 128 (d := d_answer_trade) rfl
theorem fn_answer_rule (S : Top K mg) : ∃ fd, FunD K "answer_rule" "answer_rule" (defArgs s_answer_rule) (defBody s_answer_rule) (defScope s_answer_rule) [] [] (He.ga K "answer_rule") fd := S.fn 129 (d := d_answer_rule) rfl
theorem fn_answer_compare (S : Top K mg) : ∃ fd, FunD K "answer_compare" "answer_compare" (defArgs s_answer_compare) (defBody s_answer_compare) (defScope s_answer_compare) [] [] (He.ga K "answer_compare") fd := S.fn 130 (d := d_answer_compare) rfl
theorem fn_answer_now (S : Top K mg) : ∃ fd, FunD K "answer_now" "answer_now" (defArgs s_answer_now) (defBody s_answer_now) (defScope s_answer_now) [] [] (He.ga K "answer_now") fd := S.fn 131 (d := d_answer_now) rfl
theorem fn_answer_behind (S : Top K mg) : ∃ fd, FunD K "answer_behind" "answer_behind" (defArgs s_answer_behind) (defBody s_answer_behind) (defScope s_answer_behind) [] [] (He.ga K "answer_behind") fd := S.fn 132 (d := d_answer_behind) rfl
theorem fn_answer_opened (S : Top K mg) : ∃ fd, FunD K "answer_opened" "answer_opened" (defArgs s_answer_opened) (defBody s_answer_opened) (defScope s_answer_opened) [] [] (He.ga K "answer_opened") fd := S.fn 133 (d := d_answer_opened) rfl
theorem fn_answer (S : Top K mg) : ∃ fd, FunD K "answer" "answer" (defArgs s_answer) (defBody s_answer) (defScope s_answer) [] [] (He.ga K "answer") fd := S.fn 134 (d := d_answer) rfl
theorem fn_where_given (S : Top K mg) : ∃ fd, FunD K "where_given" "where_given" (defArgs s_where_given) (defBody s_where_given) (defScope s_where_given) [] [] (He.ga K "where_given") fd := S.fn 135 (d := d_where_given) rfl
theorem fn_how_many_given (S : Top K mg) : ∃ fd, FunD K "how_many_given" "how_many_given" (defArgs s_how_many_given) (defBody s_how_many_given) (defScope s_how_many_given) [] [] (He.ga K "how_many_given") fd := S.fn 136 (d := d_how_many_given) rfl
theorem fn_answers (S : Top K mg) : ∃ fd, FunD K "answers" "answers" (defArgs s_answers) (defBody s_answers) (defScope s_answers) [] [] (He.ga K "answers") fd := S.fn 137 (d := d_answers) rfl
end
theorem sc_alone : FnScope N_alone P_alone (defScope s_alone) := ⟨rfl, rfl, rfl, by decide +kernel, rfl, by decide +kernel, by decide +kernel⟩
theorem bi_alone : Bi s_alone "alone" "alone" P_alone := fun _ _ _ _ _ _ us hl => match us, hl with | [_], _ => rfl
theorem sc_all_companies : FnScope N_all_companies P_all_companies (defScope s_all_companies) := ⟨rfl, rfl, rfl, by decide +kernel, rfl, by decide +kernel, by decide +kernel⟩
theorem bi_all_companies : Bi s_all_companies "all_companies" "all_companies" P_all_companies := fun _ _ _ _ _ _ us hl => match us, hl with | [_], _ => rfl
theorem sc_has : FnScope N_has P_has (defScope s_has) := ⟨rfl, rfl, rfl, by decide +kernel, rfl, by decide +kernel, by decide +kernel⟩
theorem bi_has : Bi s_has "has" "has" P_has := fun _ _ _ _ _ _ us hl => match us, hl with | [_, _], _ => rfl
theorem sc_size : FnScope N_size P_size (defScope s_size) := ⟨rfl, rfl, rfl, by decide +kernel, rfl, by decide +kernel, by decide +kernel⟩
theorem bi_size : Bi s_size "size" "size" P_size := fun _ _ _ _ _ _ us hl => match us, hl with | [_, _], _ => rfl
theorem sc_is_least : FnScope N_is_least P_is_least (defScope s_is_least) := ⟨rfl, rfl, rfl, by decide +kernel, rfl, by decide +kernel, by decide +kernel⟩
theorem bi_is_least : Bi s_is_least "is_least" "is_least" P_is_least := fun _ _ _ _ _ _ us hl => match us, hl with | [_, _, _], _ => rfl
theorem sc_is_greatest_forbidden : FnScope N_is_greatest_forbidden P_is_greatest_forbidden (defScope s_is_greatest_forbidden) := ⟨rfl, rfl, rfl, by decide +kernel, rfl, by decide +kernel, by decide +kernel⟩
theorem bi_is_greatest_forbidden : Bi s_is_greatest_forbidden "is_greatest_forbidden" "is_greatest_forbidden" P_is_greatest_forbidden := fun _ _ _ _ _ _ us hl => match us, hl with | [_, _, _], _ => rfl
theorem sc_least_companies : FnScope N_least_companies P_least_companies (defScope s_least_companies) := ⟨rfl, rfl, rfl, by decide +kernel, rfl, by decide +kernel, by decide +kernel⟩
theorem bi_least_companies : Bi s_least_companies "least_companies" "least_companies" P_least_companies := fun _ _ _ _ _ _ us hl => match us, hl with | [_, _], _ => rfl
theorem sc_forbidden_companies : FnScope N_forbidden_companies P_forbidden_companies (defScope s_forbidden_companies) := ⟨rfl, rfl, rfl, by decide +kernel, rfl, by decide +kernel, by decide +kernel⟩
theorem bi_forbidden_companies : Bi s_forbidden_companies "forbidden_companies" "forbidden_companies" P_forbidden_companies := fun _ _ _ _ _ _ us hl => match us, hl with | [_, _], _ => rfl
theorem sc_rule_locks : FnScope N_rule_locks P_rule_locks (defScope s_rule_locks) := ⟨rfl, rfl, rfl, by decide +kernel, rfl, by decide +kernel, by decide +kernel⟩
theorem bi_rule_locks : Bi s_rule_locks "rule_locks" "rule_locks" P_rule_locks := fun _ _ _ _ _ _ us hl => match us, hl with | [_, _], _ => rfl
theorem sc_key_count : FnScope N_key_count P_key_count (defScope s_key_count) := ⟨rfl, rfl, rfl, by decide +kernel, rfl, by decide +kernel, by decide +kernel⟩
theorem bi_key_count : Bi s_key_count "key_count" "key_count" P_key_count := fun _ _ _ _ _ _ us hl => match us, hl with | [_, _], _ => rfl
theorem sc_can_unlock : FnScope N_can_unlock P_can_unlock (defScope s_can_unlock) := ⟨rfl, rfl, rfl, by decide +kernel, rfl, by decide +kernel, by decide +kernel⟩
theorem bi_can_unlock : Bi s_can_unlock "can_unlock" "can_unlock" P_can_unlock := fun _ _ _ _ _ _ us hl => match us, hl with | [_, _], _ => rfl
theorem sc_allowed_by_locks : FnScope N_allowed_by_locks P_allowed_by_locks (defScope s_allowed_by_locks) := ⟨rfl, rfl, rfl, by decide +kernel, rfl, by decide +kernel, by decide +kernel⟩
theorem bi_allowed_by_locks : Bi s_allowed_by_locks "allowed_by_locks" "allowed_by_locks" P_allowed_by_locks := fun _ _ _ _ _ _ us hl => match us, hl with | [_, _], _ => rfl
theorem sc_where_otherwise : FnScope N_where_otherwise P_where_otherwise (defScope s_where_otherwise) := ⟨rfl, rfl, rfl, by decide +kernel, rfl, by decide +kernel, by decide +kernel⟩
theorem bi_where_otherwise : Bi s_where_otherwise "where_otherwise" "where_otherwise" P_where_otherwise := fun _ _ _ _ _ _ us hl => match us, hl with | [_, _], _ => rfl
theorem sc_swings : FnScope N_swings P_swings (defScope s_swings) := ⟨rfl, rfl, rfl, by decide +kernel, rfl, by decide +kernel, by decide +kernel⟩
theorem bi_swings : Bi s_swings "swings" "swings" P_swings := fun _ _ _ _ _ _ us hl => match us, hl with | [_, _, _], _ => rfl
theorem sc_swing_count : FnScope N_swing_count P_swing_count (defScope s_swing_count) := ⟨rfl, rfl, rfl, by decide +kernel, rfl, by decide +kernel, by decide +kernel⟩
theorem bi_swing_count : Bi s_swing_count "swing_count" "swing_count" P_swing_count := fun _ _ _ _ _ _ us hl => match us, hl with | [_, _], _ => rfl
theorem sc_Event_init : FnScope N_Event_init P_Event_init (defScope s_Event_init) := ⟨rfl, rfl, rfl, by decide +kernel, rfl, by decide +kernel, by decide +kernel⟩
theorem bi_Event_init : Bi s_Event_init "__init__" "Event.__init__" P_Event_init := fun _ _ _ _ _ _ us hl => match us, hl with | [_, _, _], _ => rfl
theorem sc_Hall_init : FnScope N_Hall_init P_Hall_init (defScope s_Hall_init) := ⟨rfl, rfl, rfl, by decide +kernel, rfl, by decide +kernel, by decide +kernel⟩
theorem bi_Hall_init : Bi s_Hall_init "__init__" "Hall.__init__" P_Hall_init := fun _ _ _ _ _ _ us hl => match us, hl with | [_], _ => rfl
theorem sc_with_those_stood_for : FnScope N_with_those_stood_for P_with_those_stood_for (defScope s_with_those_stood_for) := ⟨rfl, rfl, rfl, by decide +kernel, rfl, by decide +kernel, by decide +kernel⟩
theorem bi_with_those_stood_for : Bi s_with_those_stood_for "with_those_stood_for" "with_those_stood_for" P_with_those_stood_for := fun _ _ _ _ _ _ us hl => match us, hl with | [_, _], _ => rfl
theorem sc_those_who_act : FnScope N_those_who_act P_those_who_act (defScope s_those_who_act) := ⟨rfl, rfl, rfl, by decide +kernel, rfl, by decide +kernel, by decide +kernel⟩
theorem bi_those_who_act : Bi s_those_who_act "those_who_act" "those_who_act" P_those_who_act := fun _ _ _ _ _ _ us hl => match us, hl with | [_], _ => rfl
theorem sc_may_stand : FnScope N_may_stand P_may_stand (defScope s_may_stand) := ⟨rfl, rfl, rfl, by decide +kernel, rfl, by decide +kernel, by decide +kernel⟩
theorem bi_may_stand : Bi s_may_stand "may_stand" "may_stand" P_may_stand := fun _ _ _ _ _ _ us hl => match us, hl with | [_, _, _], _ => rfl
theorem sc_may_be : FnScope N_may_be P_may_be (defScope s_may_be) := ⟨rfl, rfl, rfl, by decide +kernel, rfl, by decide +kernel, by decide +kernel⟩
theorem bi_may_be : Bi s_may_be "may_be" "may_be" P_may_be := fun _ _ _ _ _ _ us hl => match us, hl with | [_, _, _], _ => rfl
theorem sc_bury : FnScope N_bury P_bury (defScope s_bury) := ⟨rfl, rfl, rfl, by decide +kernel, rfl, by decide +kernel, by decide +kernel⟩
theorem bi_bury : Bi s_bury "bury" "bury" P_bury := fun _ _ _ _ _ _ us hl => match us, hl with | [_, _], _ => rfl
theorem sc_happen : FnScope N_happen P_happen (defScope s_happen) := ⟨rfl, rfl, rfl, by decide +kernel, rfl, by decide +kernel, by decide +kernel⟩
theorem bi_happen : Bi s_happen "happen" "happen" P_happen := fun _ _ _ _ _ _ us hl => match us, hl with | [_, _], _ => rfl
theorem sc_hall_behind : FnScope N_hall_behind P_hall_behind (defScope s_hall_behind) := ⟨rfl, rfl, rfl, by decide +kernel, rfl, by decide +kernel, by decide +kernel⟩
theorem bi_hall_behind : Bi s_hall_behind "hall_behind" "hall_behind" P_hall_behind := fun _ _ _ _ _ _ us hl => match us, hl with | [_], _ => rfl
theorem sc_unlockings : FnScope N_unlockings P_unlockings (defScope s_unlockings) := ⟨rfl, rfl, rfl, by decide +kernel, rfl, by decide +kernel, by decide +kernel⟩
theorem bi_unlockings : Bi s_unlockings "unlockings" "unlockings" P_unlockings := fun _ _ _ _ _ _ us hl => match us, hl with | [_], _ => rfl
theorem sc_event_text : FnScope N_event_text P_event_text (defScope s_event_text) := ⟨rfl, rfl, rfl, by decide +kernel, rfl, by decide +kernel, by decide +kernel⟩
theorem bi_event_text : Bi s_event_text "event_text" "event_text" P_event_text := fun _ _ _ _ _ _ us hl => match us, hl with | [_, _], _ => rfl
theorem sc_Rule_init : FnScope N_Rule_init P_Rule_init (defScope s_Rule_init) := ⟨rfl, rfl, rfl, by decide +kernel, rfl, by decide +kernel, by decide +kernel⟩
theorem bi_Rule_init : Bi s_Rule_init "__init__" "Rule.__init__" P_Rule_init := fun _ _ _ _ _ _ us hl => match us, hl with | [_, _, _, _], _ => rfl
theorem sc_anybody_rule : FnScope N_anybody_rule P_anybody_rule (defScope s_anybody_rule) := ⟨rfl, rfl, rfl, by decide +kernel, rfl, by decide +kernel, by decide +kernel⟩
theorem bi_anybody_rule : Bi s_anybody_rule "anybody_rule" "anybody_rule" P_anybody_rule := fun _ _ _ _ _ _ us hl => match us, hl with | [_], _ => rfl
theorem sc_nobody_rule : FnScope N_nobody_rule P_nobody_rule (defScope s_nobody_rule) := ⟨rfl, rfl, rfl, by decide +kernel, rfl, by decide +kernel, by decide +kernel⟩
theorem bi_nobody_rule : Bi s_nobody_rule "nobody_rule" "nobody_rule" P_nobody_rule := fun _ _ _ _ _ _ us hl => match us, hl with | [_], _ => rfl
theorem sc_officer_rule : FnScope N_officer_rule P_officer_rule (defScope s_officer_rule) := ⟨rfl, rfl, rfl, by decide +kernel, rfl, by decide +kernel, by decide +kernel⟩
theorem bi_officer_rule : Bi s_officer_rule "officer_rule" "officer_rule" P_officer_rule := fun _ _ _ _ _ _ us hl => match us, hl with | [_, _], _ => rfl
theorem sc_so_many_rule : FnScope N_so_many_rule P_so_many_rule (defScope s_so_many_rule) := ⟨rfl, rfl, rfl, by decide +kernel, rfl, by decide +kernel, by decide +kernel⟩
theorem bi_so_many_rule : Bi s_so_many_rule "so_many_rule" "so_many_rule" P_so_many_rule := fun _ _ _ _ _ _ us hl => match us, hl with | [_, _, _], _ => rfl
theorem sc_how_many_in : FnScope N_how_many_in P_how_many_in (defScope s_how_many_in) := ⟨rfl, rfl, rfl, by decide +kernel, rfl, by decide +kernel, by decide +kernel⟩
theorem bi_how_many_in : Bi s_how_many_in "how_many_in" "how_many_in" P_how_many_in := fun _ _ _ _ _ _ us hl => match us, hl with | [_, _], _ => rfl
theorem sc_and_rule : FnScope N_and_rule P_and_rule (defScope s_and_rule) := ⟨rfl, rfl, rfl, by decide +kernel, rfl, by decide +kernel, by decide +kernel⟩
theorem bi_and_rule : Bi s_and_rule "and_rule" "and_rule" P_and_rule := fun _ _ _ _ _ _ us hl => match us, hl with | [_, _], _ => rfl
theorem sc_or_rule : FnScope N_or_rule P_or_rule (defScope s_or_rule) := ⟨rfl, rfl, rfl, by decide +kernel, rfl, by decide +kernel, by decide +kernel⟩
theorem bi_or_rule : Bi s_or_rule "or_rule" "or_rule" P_or_rule := fun _ _ _ _ _ _ us hl => match us, hl with | [_, _], _ => rfl
theorem sc_in_brackets : FnScope N_in_brackets P_in_brackets (defScope s_in_brackets) := ⟨rfl, rfl, rfl, by decide +kernel, rfl, by decide +kernel, by decide +kernel⟩
theorem bi_in_brackets : Bi s_in_brackets "in_brackets" "in_brackets" P_in_brackets := fun _ _ _ _ _ _ us hl => match us, hl with | [_], _ => rfl
theorem sc_Record_init : FnScope N_Record_init P_Record_init (defScope s_Record_init) := ⟨rfl, rfl, rfl, by decide +kernel, rfl, by decide +kernel, by decide +kernel⟩
theorem bi_Record_init : Bi s_Record_init "__init__" "Record.__init__" P_Record_init := fun _ _ _ _ _ _ us hl => match us, hl with | [_, _, _, _], _ => rfl
theorem sc_Record_become : FnScope N_Record_become P_Record_become (defScope s_Record_become) := ⟨rfl, rfl, rfl, by decide +kernel, rfl, by decide +kernel, by decide +kernel⟩
theorem bi_Record_become : Bi s_Record_become "become" "Record.become" P_Record_become := fun _ _ _ _ _ _ us hl => match us, hl with | [_, _], _ => rfl
theorem sc_new_record : FnScope N_new_record P_new_record (defScope s_new_record) := ⟨rfl, rfl, rfl, by decide +kernel, rfl, by decide +kernel, by decide +kernel⟩
theorem bi_new_record : Bi s_new_record "new_record" "new_record" P_new_record := fun _ _ _ _ _ _ us hl => match us, hl with | [], _ => rfl
theorem sc_one_text : FnScope N_one_text P_one_text (defScope s_one_text) := ⟨rfl, rfl, rfl, by decide +kernel, rfl, by decide +kernel, by decide +kernel⟩
theorem bi_one_text : Bi s_one_text "one_text" "one_text" P_one_text := fun _ _ _ _ _ _ us hl => match us, hl with | [_], _ => rfl
theorem sc_Refusal_init : FnScope N_Refusal_init P_Refusal_init (defScope s_Refusal_init) := ⟨rfl, rfl, rfl, by decide +kernel, rfl, by decide +kernel, by decide +kernel⟩
theorem bi_Refusal_init : Bi s_Refusal_init "__init__" "Refusal.__init__" P_Refusal_init := fun _ _ _ _ _ _ us hl => match us, hl with | [_, _], _ => rfl
theorem sc_NoCall_init : FnScope N_NoCall_init P_NoCall_init (defScope s_NoCall_init) := ⟨rfl, rfl, rfl, by decide +kernel, rfl, by decide +kernel, by decide +kernel⟩
theorem bi_NoCall_init : Bi s_NoCall_init "__init__" "NoCall.__init__" P_NoCall_init := fun _ _ _ _ _ _ us hl => match us, hl with | [_], _ => rfl
theorem sc_WrongBytes_init : FnScope N_WrongBytes_init P_WrongBytes_init (defScope s_WrongBytes_init) := ⟨rfl, rfl, rfl, by decide +kernel, rfl, by decide +kernel, by decide +kernel⟩
theorem bi_WrongBytes_init : Bi s_WrongBytes_init "__init__" "WrongBytes.__init__" P_WrongBytes_init := fun _ _ _ _ _ _ us hl => match us, hl with | [_], _ => rfl
theorem sc_OutOfRange_init : FnScope N_OutOfRange_init P_OutOfRange_init (defScope s_OutOfRange_init) := ⟨rfl, rfl, rfl, by decide +kernel, rfl, by decide +kernel, by decide +kernel⟩
theorem bi_OutOfRange_init : Bi s_OutOfRange_init "__init__" "OutOfRange.__init__" P_OutOfRange_init := fun _ _ _ _ _ _ us hl => match us, hl with | [_], _ => rfl
theorem sc_WrongList_init : FnScope N_WrongList_init P_WrongList_init (defScope s_WrongList_init) := ⟨rfl, rfl, rfl, by decide +kernel, rfl, by decide +kernel, by decide +kernel⟩
theorem bi_WrongList_init : Bi s_WrongList_init "__init__" "WrongList.__init__" P_WrongList_init := fun _ _ _ _ _ _ us hl => match us, hl with | [_], _ => rfl
theorem sc_NotThere_init : FnScope N_NotThere_init P_NotThere_init (defScope s_NotThere_init) := ⟨rfl, rfl, rfl, by decide +kernel, rfl, by decide +kernel, by decide +kernel⟩
theorem bi_NotThere_init : Bi s_NotThere_init "__init__" "NotThere.__init__" P_NotThere_init := fun _ _ _ _ _ _ us hl => match us, hl with | [_], _ => rfl
theorem sc_HasEvents_init : FnScope N_HasEvents_init P_HasEvents_init (defScope s_HasEvents_init) := ⟨rfl, rfl, rfl, by decide +kernel, rfl, by decide +kernel, by decide +kernel⟩
theorem bi_HasEvents_init : Bi s_HasEvents_init "__init__" "HasEvents.__init__" P_HasEvents_init := fun _ _ _ _ _ _ us hl => match us, hl with | [_], _ => rfl
theorem sc_Fault_init : FnScope N_Fault_init P_Fault_init (defScope s_Fault_init) := ⟨rfl, rfl, rfl, by decide +kernel, rfl, by decide +kernel, by decide +kernel⟩
theorem bi_Fault_init : Bi s_Fault_init "__init__" "Fault.__init__" P_Fault_init := fun _ _ _ _ _ _ us hl => match us, hl with | [_, _], _ => rfl
theorem sc_Word_init : FnScope N_Word_init P_Word_init (defScope s_Word_init) := ⟨rfl, rfl, rfl, by decide +kernel, rfl, by decide +kernel, by decide +kernel⟩
theorem bi_Word_init : Bi s_Word_init "__init__" "Word.__init__" P_Word_init := fun _ _ _ _ _ _ us hl => match us, hl with | [_, _, _], _ => rfl
theorem sc_sign_of : FnScope N_sign_of P_sign_of (defScope s_sign_of) := ⟨rfl, rfl, rfl, by decide +kernel, rfl, by decide +kernel, by decide +kernel⟩
theorem bi_sign_of : Bi s_sign_of "sign_of" "sign_of" P_sign_of := fun _ _ _ _ _ _ us hl => match us, hl with | [_], _ => rfl
theorem sc_spell : FnScope N_spell P_spell (defScope s_spell) := ⟨rfl, rfl, rfl, by decide +kernel, rfl, by decide +kernel, by decide +kernel⟩
theorem bi_spell : Bi s_spell "spell" "spell" P_spell := fun _ _ _ _ _ _ us hl => match us, hl with | [_], _ => rfl
theorem sc_split_words : FnScope N_split_words P_split_words (defScope s_split_words) := ⟨rfl, rfl, rfl, by decide +kernel, rfl, by decide +kernel, by decide +kernel⟩
theorem bi_split_words : Bi s_split_words "split_words" "split_words" P_split_words := fun _ _ _ _ _ _ us hl => match us, hl with | [_], _ => rfl
theorem sc_Reader_init : FnScope N_Reader_init P_Reader_init (defScope s_Reader_init) := ⟨rfl, rfl, rfl, by decide +kernel, rfl, by decide +kernel, by decide +kernel⟩
theorem bi_Reader_init : Bi s_Reader_init "__init__" "Reader.__init__" P_Reader_init := fun _ _ _ _ _ _ us hl => match us, hl with | [_, _], _ => rfl
theorem sc_Reader_shown : FnScope N_Reader_shown P_Reader_shown (defScope s_Reader_shown) := ⟨rfl, rfl, rfl, by decide +kernel, rfl, by decide +kernel, by decide +kernel⟩
theorem bi_Reader_shown : Bi s_Reader_shown "shown" "Reader.shown" P_Reader_shown := fun _ _ _ _ _ _ us hl => match us, hl with | [_], _ => rfl
theorem sc_Reader_at_end : FnScope N_Reader_at_end P_Reader_at_end (defScope s_Reader_at_end) := ⟨rfl, rfl, rfl, by decide +kernel, rfl, by decide +kernel, by decide +kernel⟩
theorem bi_Reader_at_end : Bi s_Reader_at_end "at_end" "Reader.at_end" P_Reader_at_end := fun _ _ _ _ _ _ us hl => match us, hl with | [_], _ => rfl
theorem sc_Reader_go_on : FnScope N_Reader_go_on P_Reader_go_on (defScope s_Reader_go_on) := ⟨rfl, rfl, rfl, by decide +kernel, rfl, by decide +kernel, by decide +kernel⟩
theorem bi_Reader_go_on : Bi s_Reader_go_on "go_on" "Reader.go_on" P_Reader_go_on := fun _ _ _ _ _ _ us hl => match us, hl with | [_], _ => rfl
theorem sc_Reader_refuse : FnScope N_Reader_refuse P_Reader_refuse (defScope s_Reader_refuse) := ⟨rfl, rfl, rfl, by decide +kernel, rfl, by decide +kernel, by decide +kernel⟩
theorem bi_Reader_refuse : Bi s_Reader_refuse "refuse" "Reader.refuse" P_Reader_refuse := fun _ _ _ _ _ _ us hl => match us, hl with | [_], _ => rfl
theorem sc_Reader_expect : FnScope N_Reader_expect P_Reader_expect (defScope s_Reader_expect) := ⟨rfl, rfl, rfl, by decide +kernel, rfl, by decide +kernel, by decide +kernel⟩
theorem bi_Reader_expect : Bi s_Reader_expect "expect" "Reader.expect" P_Reader_expect := fun _ _ _ _ _ _ us hl => match us, hl with | [_, _], _ => rfl
theorem sc_Reader_finish : FnScope N_Reader_finish P_Reader_finish (defScope s_Reader_finish) := ⟨rfl, rfl, rfl, by decide +kernel, rfl, by decide +kernel, by decide +kernel⟩
theorem bi_Reader_finish : Bi s_Reader_finish "finish" "Reader.finish" P_Reader_finish := fun _ _ _ _ _ _ us hl => match us, hl with | [_], _ => rfl
theorem sc_is_name : FnScope N_is_name P_is_name (defScope s_is_name) := ⟨rfl, rfl, rfl, by decide +kernel, rfl, by decide +kernel, by decide +kernel⟩
theorem bi_is_name : Bi s_is_name "is_name" "is_name" P_is_name := fun _ _ _ _ _ _ us hl => match us, hl with | [_], _ => rfl
theorem sc_can_be_told : FnScope N_can_be_told P_can_be_told (defScope s_can_be_told) := ⟨rfl, rfl, rfl, by decide +kernel, rfl, by decide +kernel, by decide +kernel⟩
theorem bi_can_be_told : Bi s_can_be_told "can_be_told" "can_be_told" P_can_be_told := fun _ _ _ _ _ _ us hl => match us, hl with | [_, _], _ => rfl
theorem sc_read_names : FnScope N_read_names P_read_names (defScope s_read_names) := ⟨rfl, rfl, rfl, by decide +kernel, rfl, by decide +kernel, by decide +kernel⟩
theorem bi_read_names : Bi s_read_names "read_names" "read_names" P_read_names := fun _ _ _ _ _ _ us hl => match us, hl with | [_], _ => rfl
theorem sc_shown_officer : FnScope N_shown_officer P_shown_officer (defScope s_shown_officer) := ⟨rfl, rfl, rfl, by decide +kernel, rfl, by decide +kernel, by decide +kernel⟩
theorem bi_shown_officer : Bi s_shown_officer "shown_officer" "shown_officer" P_shown_officer := fun _ _ _ _ _ _ us hl => match us, hl with | [_, _], _ => rfl
theorem sc_read_officer : FnScope N_read_officer P_read_officer (defScope s_read_officer) := ⟨rfl, rfl, rfl, by decide +kernel, rfl, by decide +kernel, by decide +kernel⟩
theorem bi_read_officer : Bi s_read_officer "read_officer" "read_officer" P_read_officer := fun _ _ _ _ _ _ us hl => match us, hl with | [_, _], _ => rfl
theorem sc_read_chosen : FnScope N_read_chosen P_read_chosen (defScope s_read_chosen) := ⟨rfl, rfl, rfl, by decide +kernel, rfl, by decide +kernel, by decide +kernel⟩
theorem bi_read_chosen : Bi s_read_chosen "read_chosen" "read_chosen" P_read_chosen := fun _ _ _ _ _ _ us hl => match us, hl with | [_, _, _], _ => rfl
theorem sc_read_so_many : FnScope N_read_so_many P_read_so_many (defScope s_read_so_many) := ⟨rfl, rfl, rfl, by decide +kernel, rfl, by decide +kernel, by decide +kernel⟩
theorem bi_read_so_many : Bi s_read_so_many "read_so_many" "read_so_many" P_read_so_many := fun _ _ _ _ _ _ us hl => match us, hl with | [_, _], _ => rfl
theorem sc_read_bracket : FnScope N_read_bracket P_read_bracket (defScope s_read_bracket) := ⟨rfl, rfl, rfl, by decide +kernel, rfl, by decide +kernel, by decide +kernel⟩
theorem bi_read_bracket : Bi s_read_bracket "read_bracket" "read_bracket" P_read_bracket := fun _ _ _ _ _ _ us hl => match us, hl with | [_, _, _], _ => rfl
theorem sc_read_one : FnScope N_read_one P_read_one (defScope s_read_one) := ⟨rfl, rfl, rfl, by decide +kernel, rfl, by decide +kernel, by decide +kernel⟩
theorem bi_read_one : Bi s_read_one "read_one" "read_one" P_read_one := fun _ _ _ _ _ _ us hl => match us, hl with | [_, _, _], _ => rfl
theorem sc_read_part : FnScope N_read_part P_read_part (defScope s_read_part) := ⟨rfl, rfl, rfl, by decide +kernel, rfl, by decide +kernel, by decide +kernel⟩
theorem bi_read_part : Bi s_read_part "read_part" "read_part" P_read_part := fun _ _ _ _ _ _ us hl => match us, hl with | [_, _, _], _ => rfl
theorem sc_read_rule : FnScope N_read_rule P_read_rule (defScope s_read_rule) := ⟨rfl, rfl, rfl, by decide +kernel, rfl, by decide +kernel, by decide +kernel⟩
theorem bi_read_rule : Bi s_read_rule "read_rule" "read_rule" P_read_rule := fun _ _ _ _ _ _ us hl => match us, hl with | [_, _, _], _ => rfl
theorem sc_read_event_officers : FnScope N_read_event_officers P_read_event_officers (defScope s_read_event_officers) := ⟨rfl, rfl, rfl, by decide +kernel, rfl, by decide +kernel, by decide +kernel⟩
theorem bi_read_event_officers : Bi s_read_event_officers "read_event_officers" "read_event_officers" P_read_event_officers := fun _ _ _ _ _ _ us hl => match us, hl with | [_, _, _], _ => rfl
theorem sc_read_event : FnScope N_read_event P_read_event (defScope s_read_event) := ⟨rfl, rfl, rfl, by decide +kernel, rfl, by decide +kernel, by decide +kernel⟩
theorem bi_read_event : Bi s_read_event "read_event" "read_event" P_read_event := fun _ _ _ _ _ _ us hl => match us, hl with | [_, _, _], _ => rfl
theorem sc_read_file : FnScope N_read_file P_read_file (defScope s_read_file) := ⟨rfl, rfl, rfl, by decide +kernel, rfl, by decide +kernel, by decide +kernel⟩
theorem bi_read_file : Bi s_read_file "read_file" "read_file" P_read_file := fun _ _ _ _ _ _ us hl => match us, hl with | [_], _ => rfl
theorem sc_read_one_rule : FnScope N_read_one_rule P_read_one_rule (defScope s_read_one_rule) := ⟨rfl, rfl, rfl, by decide +kernel, rfl, by decide +kernel, by decide +kernel⟩
theorem bi_read_one_rule : Bi s_read_one_rule "read_one_rule" "read_one_rule" P_read_one_rule := fun _ _ _ _ _ _ us hl => match us, hl with | [_, _], _ => rfl
theorem sc_read_one_event : FnScope N_read_one_event P_read_one_event (defScope s_read_one_event) := ⟨rfl, rfl, rfl, by decide +kernel, rfl, by decide +kernel, by decide +kernel⟩
theorem bi_read_one_event : Bi s_read_one_event "read_one_event" "read_one_event" P_read_one_event := fun _ _ _ _ _ _ us hl => match us, hl with | [_, _], _ => rfl
theorem sc_check_range : FnScope N_check_range P_check_range (defScope s_check_range) := ⟨rfl, rfl, rfl, by decide +kernel, rfl, by decide +kernel, by decide +kernel⟩
theorem bi_check_range : Bi s_check_range "check_range" "check_range" P_check_range := fun _ _ _ _ _ _ us hl => match us, hl with | [_, _], _ => rfl
theorem sc_check_company : FnScope N_check_company P_check_company (defScope s_check_company) := ⟨rfl, rfl, rfl, by decide +kernel, rfl, by decide +kernel, by decide +kernel⟩
theorem bi_check_company : Bi s_check_company "check_company" "check_company" P_check_company := fun _ _ _ _ _ _ us hl => match us, hl with | [_, _], _ => rfl
theorem sc_check_officer : FnScope N_check_officer P_check_officer (defScope s_check_officer) := ⟨rfl, rfl, rfl, by decide +kernel, rfl, by decide +kernel, by decide +kernel⟩
theorem bi_check_officer : Bi s_check_officer "check_officer" "check_officer" P_check_officer := fun _ _ _ _ _ _ us hl => match us, hl with | [_, _], _ => rfl
theorem sc_check_how_many_events : FnScope N_check_how_many_events P_check_how_many_events (defScope s_check_how_many_events) := ⟨rfl, rfl, rfl, by decide +kernel, rfl, by decide +kernel, by decide +kernel⟩
theorem bi_check_how_many_events : Bi s_check_how_many_events "check_how_many_events" "check_how_many_events" P_check_how_many_events := fun _ _ _ _ _ _ us hl => match us, hl with | [_, _], _ => rfl
theorem sc_check_sought : FnScope N_check_sought P_check_sought (defScope s_check_sought) := ⟨rfl, rfl, rfl, by decide +kernel, rfl, by decide +kernel, by decide +kernel⟩
theorem bi_check_sought : Bi s_check_sought "check_sought" "check_sought" P_check_sought := fun _ _ _ _ _ _ us hl => match us, hl with | [_], _ => rfl
theorem sc_check_bytes : FnScope N_check_bytes P_check_bytes (defScope s_check_bytes) := ⟨rfl, rfl, rfl, by decide +kernel, rfl, by decide +kernel, by decide +kernel⟩
theorem bi_check_bytes : Bi s_check_bytes "check_bytes" "check_bytes" P_check_bytes := fun _ _ _ _ _ _ us hl => match us, hl with | [_], _ => rfl
theorem sc_check_locks : FnScope N_check_locks P_check_locks (defScope s_check_locks) := ⟨rfl, rfl, rfl, by decide +kernel, rfl, by decide +kernel, by decide +kernel⟩
theorem bi_check_locks : Bi s_check_locks "check_locks" "check_locks" P_check_locks := fun _ _ _ _ _ _ us hl => match us, hl with | [_, _], _ => rfl
theorem sc_check_weights : FnScope N_check_weights P_check_weights (defScope s_check_weights) := ⟨rfl, rfl, rfl, by decide +kernel, rfl, by decide +kernel, by decide +kernel⟩
theorem bi_check_weights : Bi s_check_weights "check_weights" "check_weights" P_check_weights := fun _ _ _ _ _ _ us hl => match us, hl with | [_, _], _ => rfl
theorem sc_swung_orders : FnScope N_swung_orders P_swung_orders (defScope s_swung_orders) := ⟨rfl, rfl, rfl, by decide +kernel, rfl, by decide +kernel, by decide +kernel⟩
theorem bi_swung_orders : Bi s_swung_orders "swung_orders" "swung_orders" P_swung_orders := fun _ _ _ _ _ _ us hl => match us, hl with | [_, _, _], _ => rfl
theorem sc_greatest_divisor : FnScope N_greatest_divisor P_greatest_divisor (defScope s_greatest_divisor) := ⟨rfl, rfl, rfl, by decide +kernel, rfl, by decide +kernel, by decide +kernel⟩
theorem bi_greatest_divisor : Bi s_greatest_divisor "greatest_divisor" "greatest_divisor" P_greatest_divisor := fun _ _ _ _ _ _ us hl => match us, hl with | [_, _], _ => rfl
theorem sc_officer_power : FnScope N_officer_power P_officer_power (defScope s_officer_power) := ⟨rfl, rfl, rfl, by decide +kernel, rfl, by decide +kernel, by decide +kernel⟩
theorem bi_officer_power : Bi s_officer_power "officer_power" "officer_power" P_officer_power := fun _ _ _ _ _ _ us hl => match us, hl with | [_, _, _], _ => rfl
theorem sc_idle_officers : FnScope N_idle_officers P_idle_officers (defScope s_idle_officers) := ⟨rfl, rfl, rfl, by decide +kernel, rfl, by decide +kernel, by decide +kernel⟩
theorem bi_idle_officers : Bi s_idle_officers "idle_officers" "idle_officers" P_idle_officers := fun _ _ _ _ _ _ us hl => match us, hl with | [_, _], _ => rfl
theorem sc_exchanged : FnScope N_exchanged P_exchanged (defScope s_exchanged) := ⟨rfl, rfl, rfl, by decide +kernel, rfl, by decide +kernel, by decide +kernel⟩
theorem bi_exchanged : Bi s_exchanged "exchanged" "exchanged" P_exchanged := fun _ _ _ _ _ _ us hl => match us, hl with | [_, _, _], _ => rfl
theorem sc_are_alike : FnScope N_are_alike P_are_alike (defScope s_are_alike) := ⟨rfl, rfl, rfl, by decide +kernel, rfl, by decide +kernel, by decide +kernel⟩
theorem bi_are_alike : Bi s_are_alike "are_alike" "are_alike" P_are_alike := fun _ _ _ _ _ _ us hl => match us, hl with | [_, _, _], _ => rfl
theorem sc_least_hindering : FnScope N_least_hindering P_least_hindering (defScope s_least_hindering) := ⟨rfl, rfl, rfl, by decide +kernel, rfl, by decide +kernel, by decide +kernel⟩
theorem bi_least_hindering : Bi s_least_hindering "least_hindering" "least_hindering" P_least_hindering := fun _ _ _ _ _ _ us hl => match us, hl with | [_, _], _ => rfl
theorem sc_pairs_of : FnScope N_pairs_of P_pairs_of (defScope s_pairs_of) := ⟨rfl, rfl, rfl, by decide +kernel, rfl, by decide +kernel, by decide +kernel⟩
theorem bi_pairs_of : Bi s_pairs_of "pairs_of" "pairs_of" P_pairs_of := fun _ _ _ _ _ _ us hl => match us, hl with | [_], _ => rfl
theorem sc_together : FnScope N_together P_together (defScope s_together) := ⟨rfl, rfl, rfl, by decide +kernel, rfl, by decide +kernel, by decide +kernel⟩
theorem bi_together : Bi s_together "together" "together" P_together := fun _ _ _ _ _ _ us hl => match us, hl with | [_], _ => rfl
theorem sc_first_trade : FnScope N_first_trade P_first_trade (defScope s_first_trade) := ⟨rfl, rfl, rfl, by decide +kernel, rfl, by decide +kernel, by decide +kernel⟩
theorem bi_first_trade : Bi s_first_trade "first_trade" "first_trade" P_first_trade := fun _ _ _ _ _ _ us hl => match us, hl with | [_], _ => rfl
theorem sc_company_weight : FnScope N_company_weight P_company_weight (defScope s_company_weight) := ⟨rfl, rfl, rfl, by decide +kernel, rfl, by decide +kernel, by decide +kernel⟩
theorem bi_company_weight : Bi s_company_weight "company_weight" "company_weight" P_company_weight := fun _ _ _ _ _ _ us hl => match us, hl with | [_, _], _ => rfl
theorem sc_all_weigh_more : FnScope N_all_weigh_more P_all_weigh_more (defScope s_all_weigh_more) := ⟨rfl, rfl, rfl, by decide +kernel, rfl, by decide +kernel, by decide +kernel⟩
theorem bi_all_weigh_more : Bi s_all_weigh_more "all_weigh_more" "all_weigh_more" P_all_weigh_more := fun _ _ _ _ _ _ us hl => match us, hl with | [_, _], _ => rfl
theorem sc_tell_rule : FnScope N_tell_rule P_tell_rule (defScope s_tell_rule) := ⟨rfl, rfl, rfl, by decide +kernel, rfl, by decide +kernel, by decide +kernel⟩
theorem bi_tell_rule : Bi s_tell_rule "tell_rule" "tell_rule" P_tell_rule := fun _ _ _ _ _ _ us hl => match us, hl with | [_, _, _], _ => rfl
theorem sc_quota_of : FnScope N_quota_of P_quota_of (defScope s_quota_of) := ⟨rfl, rfl, rfl, by decide +kernel, rfl, by decide +kernel, by decide +kernel⟩
theorem bi_quota_of : Bi s_quota_of "quota_of" "quota_of" P_quota_of := fun _ _ _ _ _ _ us hl => match us, hl with | [_, _], _ => rfl
theorem sc_moved : FnScope N_moved P_moved (defScope s_moved) := ⟨rfl, rfl, rfl, by decide +kernel, rfl, by decide +kernel, by decide +kernel⟩
theorem bi_moved : Bi s_moved "moved" "moved" P_moved := fun _ _ _ _ _ _ us hl => match us, hl with | [_, _, _, _], _ => rfl
theorem sc_Search_init : FnScope N_Search_init P_Search_init (defScope s_Search_init) := ⟨rfl, rfl, rfl, by decide +kernel, rfl, by decide +kernel, by decide +kernel⟩
theorem bi_Search_init : Bi s_Search_init "__init__" "Search.__init__" P_Search_init := fun _ _ _ _ _ _ us hl => match us, hl with | [_, _, _, _, _], _ => rfl
theorem sc_Search_first_behind : FnScope N_Search_first_behind P_Search_first_behind (defScope s_Search_first_behind) := ⟨rfl, rfl, rfl, by decide +kernel, rfl, by decide +kernel, by decide +kernel⟩
theorem bi_Search_first_behind : Bi s_Search_first_behind "first_behind" "Search.first_behind" P_Search_first_behind := fun _ _ _ _ _ _ us hl => match us, hl with | [_, _, _, _], _ => rfl
theorem sc_first_weights : FnScope N_first_weights P_first_weights (defScope s_first_weights) := ⟨rfl, rfl, rfl, by decide +kernel, rfl, by decide +kernel, by decide +kernel⟩
theorem bi_first_weights : Bi s_first_weights "first_weights" "first_weights" P_first_weights := fun _ _ _ _ _ _ us hl => match us, hl with | [_, _, _, _], _ => rfl
theorem sc_counted : FnScope N_counted P_counted (defScope s_counted) := ⟨rfl, rfl, rfl, by decide +kernel, rfl, by decide +kernel, by decide +kernel⟩
theorem bi_counted : Bi s_counted "counted" "counted" P_counted := fun _ _ _ _ _ _ us hl => match us, hl with | [_], _ => rfl
theorem sc_yes_or_no : FnScope N_yes_or_no P_yes_or_no (defScope s_yes_or_no) := ⟨rfl, rfl, rfl, by decide +kernel, rfl, by decide +kernel, by decide +kernel⟩
theorem bi_yes_or_no : Bi s_yes_or_no "yes_or_no" "yes_or_no" P_yes_or_no := fun _ _ _ _ _ _ us hl => match us, hl with | [_], _ => rfl
theorem sc_same_or_first_otherwise : FnScope N_same_or_first_otherwise P_same_or_first_otherwise (defScope s_same_or_first_otherwise) := ⟨rfl, rfl, rfl, by decide +kernel, rfl, by decide +kernel, by decide +kernel⟩
theorem bi_same_or_first_otherwise : Bi s_same_or_first_otherwise "same_or_first_otherwise" "same_or_first_otherwise" P_same_or_first_otherwise := fun _ _ _ _ _ _ us hl => match us, hl with | [_, _], _ => rfl
theorem sc_state_behind : FnScope N_state_behind P_state_behind (defScope s_state_behind) := ⟨rfl, rfl, rfl, by decide +kernel, rfl, by decide +kernel, by decide +kernel⟩
theorem bi_state_behind : Bi s_state_behind "state_behind" "state_behind" P_state_behind := fun _ _ _ _ _ _ us hl => match us, hl with | [_, _], _ => rfl
theorem sc_record_least : FnScope N_record_least P_record_least (defScope s_record_least) := ⟨rfl, rfl, rfl, by decide +kernel, rfl, by decide +kernel, by decide +kernel⟩
theorem bi_record_least : Bi s_record_least "record_least" "record_least" P_record_least := fun _ _ _ _ _ _ us hl => match us, hl with | [_], _ => rfl
theorem sc_record_forbidden : FnScope N_record_forbidden P_record_forbidden (defScope s_record_forbidden) := ⟨rfl, rfl, rfl, by decide +kernel, rfl, by decide +kernel, by decide +kernel⟩
theorem bi_record_forbidden : Bi s_record_forbidden "record_forbidden" "record_forbidden" P_record_forbidden := fun _ _ _ _ _ _ us hl => match us, hl with | [_], _ => rfl
theorem sc_record_locks : FnScope N_record_locks P_record_locks (defScope s_record_locks) := ⟨rfl, rfl, rfl, by decide +kernel, rfl, by decide +kernel, by decide +kernel⟩
theorem bi_record_locks : Bi s_record_locks "record_locks" "record_locks" P_record_locks := fun _ _ _ _ _ _ us hl => match us, hl with | [_], _ => rfl
theorem sc_answer_clear : FnScope N_answer_clear P_answer_clear (defScope s_answer_clear) := ⟨rfl, rfl, rfl, by decide +kernel, rfl, by decide +kernel, by decide +kernel⟩
theorem bi_answer_clear : Bi s_answer_clear "answer_clear" "answer_clear" P_answer_clear := fun _ _ _ _ _ _ us hl => match us, hl with | [_, _], _ => rfl
theorem sc_answer_file : FnScope N_answer_file P_answer_file (defScope s_answer_file) := ⟨rfl, rfl, rfl, by decide +kernel, rfl, by decide +kernel, by decide +kernel⟩
theorem bi_answer_file : Bi s_answer_file "answer_file" "answer_file" P_answer_file := fun _ _ _ _ _ _ us hl => match us, hl with | [_, _], _ => rfl
theorem sc_answer_look : FnScope N_answer_look P_answer_look (defScope s_answer_look) := ⟨rfl, rfl, rfl, by decide +kernel, rfl, by decide +kernel, by decide +kernel⟩
theorem bi_answer_look : Bi s_answer_look "answer_look" "answer_look" P_answer_look := fun _ _ _ _ _ _ us hl => match us, hl with | [_, _], _ => rfl
theorem sc_answer_text : FnScope N_answer_text P_answer_text (defScope s_answer_text) := ⟨rfl, rfl, rfl, by decide +kernel, rfl, by decide +kernel, by decide +kernel⟩
theorem bi_answer_text : Bi s_answer_text "answer_text" "answer_text" P_answer_text := fun _ _ _ _ _ _ us hl => match us, hl with | [_, _], _ => rfl
theorem sc_answer_event : FnScope N_answer_event P_answer_event (defScope s_answer_event) := ⟨rfl, rfl, rfl, by decide +kernel, rfl, by decide +kernel, by decide +kernel⟩
theorem bi_answer_event : Bi s_answer_event "answer_event" "answer_event" P_answer_event := fun _ _ _ _ _ _ us hl => match us, hl with | [_, _], _ => rfl
theorem sc_answer_undo : FnScope N_answer_undo P_answer_undo (defScope s_answer_undo) := ⟨rfl, rfl, rfl, by decide +kernel, rfl, by decide +kernel, by decide +kernel⟩
theorem bi_answer_undo : Bi s_answer_undo "answer_undo" "answer_undo" P_answer_undo := fun _ _ _ _ _ _ us hl => match us, hl with | [_, _], _ => rfl
theorem sc_answer_told : FnScope N_answer_told P_answer_told (defScope s_answer_told) := ⟨rfl, rfl, rfl, by decide +kernel, rfl, by decide +kernel, by decide +kernel⟩
theorem bi_answer_told : Bi s_answer_told "answer_told" "answer_told" P_answer_told := fun _ _ _ _ _ _ us hl => match us, hl with | [_, _], _ => rfl
theorem sc_answer_may : FnScope N_answer_may P_answer_may (defScope s_answer_may) := ⟨rfl, rfl, rfl, by decide +kernel, rfl, by decide +kernel, by decide +kernel⟩
theorem bi_answer_may : Bi s_answer_may "answer_may" "answer_may" P_answer_may := fun _ _ _ _ _ _ us hl => match us, hl with | [_, _], _ => rfl
theorem sc_answer_least : FnScope N_answer_least P_answer_least (defScope s_answer_least) := ⟨rfl, rfl, rfl, by decide +kernel, rfl, by decide +kernel, by decide +kernel⟩
theorem bi_answer_least : Bi s_answer_least "answer_least" "answer_least" P_answer_least := fun _ _ _ _ _ _ us hl => match us, hl with | [_, _], _ => rfl
theorem sc_answer_forbidden : FnScope N_answer_forbidden P_answer_forbidden (defScope s_answer_forbidden) := ⟨rfl, rfl, rfl, by decide +kernel, rfl, by decide +kernel, by decide +kernel⟩
theorem bi_answer_forbidden : Bi s_answer_forbidden "answer_forbidden" "answer_forbidden" P_answer_forbidden := fun _ _ _ _ _ _ us hl => match us, hl with | [_, _], _ => rfl
theorem sc_answer_locks : FnScope N_answer_locks P_answer_locks (defScope s_answer_locks) := ⟨rfl, rfl, rfl, by decide +kernel, rfl, by decide +kernel, by decide +kernel⟩
theorem bi_answer_locks : Bi s_answer_locks "answer_locks" "answer_locks" P_answer_locks := fun _ _ _ _ _ _ us hl => match us, hl with | [_, _], _ => rfl
theorem sc_answer_keys : FnScope N_answer_keys P_answer_keys (defScope s_answer_keys) := ⟨rfl, rfl, rfl, by decide +kernel, rfl, by decide +kernel, by decide +kernel⟩
theorem bi_answer_keys : Bi s_answer_keys "answer_keys" "answer_keys" P_answer_keys := fun _ _ _ _ _ _ us hl => match us, hl with | [_, _], _ => rfl
theorem sc_answer_scheme : FnScope N_answer_scheme P_answer_scheme (defScope s_answer_scheme) := ⟨rfl, rfl, rfl, by decide +kernel, rfl, by decide +kernel, by decide +kernel⟩
theorem bi_answer_scheme : Bi s_answer_scheme "answer_scheme" "answer_scheme" P_answer_scheme := fun _ _ _ _ _ _ us hl => match us, hl with | [_, _], _ => rfl
theorem sc_answer_swings : FnScope N_answer_swings P_answer_swings (defScope s_answer_swings) := ⟨rfl, rfl, rfl, by decide +kernel, rfl, by decide +kernel, by decide +kernel⟩
theorem bi_answer_swings : Bi s_answer_swings "answer_swings" "answer_swings" P_answer_swings := fun _ _ _ _ _ _ us hl => match us, hl with | [_, _], _ => rfl
theorem sc_answer_power : FnScope N_answer_power P_answer_power (defScope s_answer_power) := ⟨rfl, rfl, rfl, by decide +kernel, rfl, by decide +kernel, by decide +kernel⟩
theorem bi_answer_power : Bi s_answer_power "answer_power" "answer_power" P_answer_power := fun _ _ _ _ _ _ us hl => match us, hl with | [_, _], _ => rfl
theorem sc_answer_idle : FnScope N_answer_idle P_answer_idle (defScope s_answer_idle) := ⟨rfl, rfl, rfl, by decide +kernel, rfl, by decide +kernel, by decide +kernel⟩
theorem bi_answer_idle : Bi s_answer_idle "answer_idle" "answer_idle" P_answer_idle := fun _ _ _ _ _ _ us hl => match us, hl with | [_, _], _ => rfl
theorem sc_answer_alike : FnScope N_answer_alike P_answer_alike (defScope s_answer_alike) := ⟨rfl, rfl, rfl, by decide +kernel, rfl, by decide +kernel, by decide +kernel⟩
theorem bi_answer_alike : Bi s_answer_alike "answer_alike" "answer_alike" P_answer_alike := fun _ _ _ _ _ _ us hl => match us, hl with | [_, _], _ => rfl
theorem sc_answer_hinder : FnScope N_answer_hinder P_answer_hinder (defScope s_answer_hinder) := ⟨rfl, rfl, rfl, by decide +kernel, rfl, by decide +kernel, by decide +kernel⟩
theorem bi_answer_hinder : Bi s_answer_hinder "answer_hinder" "answer_hinder" P_answer_hinder := fun _ _ _ _ _ _ us hl => match us, hl with | [_, _], _ => rfl
theorem sc_answer_without : FnScope N_answer_without P_answer_without (defScope s_answer_without) := ⟨rfl, rfl, rfl, by decide +kernel, rfl, by decide +kernel, by decide +kernel⟩
theorem bi_answer_without : Bi s_answer_without "answer_without" "answer_without" P_answer_without := fun _ _ _ _ _ _ us hl => match us, hl with | [_, _], _ => rfl
theorem sc_answer_weights : FnScope N_answer_weights P_answer_weights (defScope s_answer_weights) := ⟨rfl, rfl, rfl, by decide +kernel, rfl, by decide +kernel, by decide +kernel⟩
theorem bi_answer_weights : Bi s_answer_weights "answer_weights" "answer_weights" P_answer_weights := fun _ _ _ _ _ _ us hl => match us, hl with | [_, _], _ => rfl
theorem sc_answer_weigh : FnScope N_answer_weigh P_answer_weigh (defScope s_answer_weigh) := ⟨rfl, rfl, rfl, by decide +kernel, rfl, by decide +kernel, by decide +kernel⟩
theorem bi_answer_weigh : Bi s_answer_weigh "answer_weigh" "answer_weigh" P_answer_weigh := fun _ _ _ _ _ _ us hl => match us, hl with | [_, _], _ => rfl
theorem sc_answer_trade : FnScope N_answer_trade P_answer_trade (defScope s_answer_trade) := ⟨rfl, rfl, rfl, by decide +kernel, rfl, by decide +kernel, by decide +kernel⟩
theorem bi_answer_trade : Bi s_answer_trade "answer_trade" "answer_trade" P_answer_trade := fun _ _ _ _ _ _ us hl => match us, hl with | [_, _], _ => rfl
theorem sc_answer_rule : FnScope N_answer_rule P_answer_rule (defScope s_answer_rule) := ⟨rfl, rfl, rfl, by decide +kernel, rfl, by decide +kernel, by decide +kernel⟩
theorem bi_answer_rule : Bi s_answer_rule "answer_rule" "answer_rule" P_answer_rule := fun _ _ _ _ _ _ us hl => match us, hl with | [_, _], _ => rfl
theorem sc_answer_compare : FnScope N_answer_compare P_answer_compare (defScope s_answer_compare) := ⟨rfl, rfl, rfl, by decide +kernel, rfl, by decide +kernel, by decide +kernel⟩
theorem bi_answer_compare : Bi s_answer_compare "answer_compare" "answer_compare" P_answer_compare := fun _ _ _ _ _ _ us hl => match us, hl with | [_, _], _ => rfl
theorem sc_answer_now : FnScope N_answer_now P_answer_now (defScope s_answer_now) := ⟨rfl, rfl, rfl, by decide +kernel, rfl, by decide +kernel, by decide +kernel⟩
theorem bi_answer_now : Bi s_answer_now "answer_now" "answer_now" P_answer_now := fun _ _ _ _ _ _ us hl => match us, hl with | [_, _], _ => rfl
theorem sc_answer_behind : FnScope N_answer_behind P_answer_behind (defScope s_answer_behind) := ⟨rfl, rfl, rfl, by decide +kernel, rfl, by decide +kernel, by decide +kernel⟩
theorem bi_answer_behind : Bi s_answer_behind "answer_behind" "answer_behind" P_answer_behind := fun _ _ _ _ _ _ us hl => match us, hl with | [_, _], _ => rfl
theorem sc_answer_opened : FnScope N_answer_opened P_answer_opened (defScope s_answer_opened) := ⟨rfl, rfl, rfl, by decide +kernel, rfl, by decide +kernel, by decide +kernel⟩
theorem bi_answer_opened : Bi s_answer_opened "answer_opened" "answer_opened" P_answer_opened := fun _ _ _ _ _ _ us hl => match us, hl with | [_, _], _ => rfl
theorem sc_answer : FnScope N_answer P_answer (defScope s_answer) := ⟨rfl, rfl, rfl, by decide +kernel, rfl, by decide +kernel, by decide +kernel⟩
theorem bi_answer : Bi s_answer "answer" "answer" P_answer := fun _ _ _ _ _ _ us hl => match us, hl with | [_, _, _], _ => rfl
theorem sc_where_given : FnScope N_where_given P_where_given (defScope s_where_given) := ⟨rfl, rfl, rfl, by decide +kernel, rfl, by decide +kernel, by decide +kernel⟩
theorem bi_where_given : Bi s_where_given "where_given" "where_given" P_where_given := fun _ _ _ _ _ _ us hl => match us, hl with | [_, _], _ => rfl
theorem sc_how_many_given : FnScope N_how_many_given P_how_many_given (defScope s_how_many_given) := ⟨rfl, rfl, rfl, by decide +kernel, rfl, by decide +kernel, by decide +kernel⟩
theorem bi_how_many_given : Bi s_how_many_given "how_many_given" "how_many_given" P_how_many_given := fun _ _ _ _ _ _ us hl => match us, hl with | [_, _], _ => rfl
theorem sc_answers : FnScope N_answers P_answers (defScope s_answers) := ⟨rfl, rfl, rfl, by decide +kernel, rfl, by decide +kernel, by decide +kernel⟩
theorem bi_answers : Bi s_answers "answers" "answers" P_answers := fun _ _ _ _ _ _ us hl => match us, hl with | [_], _ => rfl
end CK
namespace CK
open PySem PySem.W PySem.Calls PyProof.Rows
abbrev Rw : OpenSpec := PySem.Challenge.rw_chestkeys_s01_answers
abbrev qv : Program := view Rw.prog [ansAt]
/-- where the defs, the classes, their names, methods and codes stand, and the statics' own table -/
def lit0 : List Addr := [3, 2, 6, 4, 0, 15, 22, 21, 29, 28, 36, 35, 41, 40, 48, 47, 55, 54, 60, 59, 65, 64, 70, 69, 75, 74, 80, 79, 85, 84]
def lit1 : List Addr := [90, 89, 97, 96, 102, 101, 119, 118, 116, 115, 120, 121, 140, 139, 137, 136, 141, 142, 151, 150, 158, 157, 165, 164, 172, 171, 177, 176, 184, 183]
def lit2 : List Addr := [191, 190, 196, 195, 201, 200, 218, 217, 215, 214, 219, 220, 227, 226, 232, 231, 237, 236, 242, 241, 247, 246, 252, 251, 257, 256, 264, 263, 288, 287]
def lit3 : List Addr := [278, 277, 285, 284, 289, 290, 299, 298, 306, 305, 323, 322, 320, 319, 324, 343, 342, 340, 339, 362, 361, 359, 358, 381, 380, 378, 377, 400, 399, 397]
def lit4 : List Addr := [396, 419, 418, 416, 415, 438, 437, 435, 434, 457, 456, 454, 453, 476, 475, 473, 472, 477, 478, 487, 486, 492, 491, 499, 498, 558, 557, 513, 512, 520]
def lit5 : List Addr := [519, 527, 526, 534, 533, 541, 540, 548, 547, 555, 554, 559, 560, 563, 564, 569, 568, 576, 575, 583, 582, 590, 589, 597, 596, 604, 603, 611, 610, 618]
def lit6 : List Addr := [617, 625, 624, 632, 631, 639, 638, 646, 645, 653, 652, 660, 659, 667, 666, 674, 673, 681, 680, 688, 687, 695, 694, 702, 701, 709, 708, 714, 713, 719]
def lit7 : List Addr := [718, 724, 723, 725, 732, 731, 739, 738, 746, 745, 751, 750, 758, 757, 765, 764, 770, 769, 777, 776, 784, 783, 789, 788, 794, 793, 799, 798, 804, 803]
def lit8 : List Addr := [809, 808, 814, 813, 838, 837, 828, 827, 835, 834, 839, 840, 847, 846, 854, 853, 861, 860, 868, 867, 875, 874, 882, 881, 889, 888, 896, 895, 903, 902]
def lit9 : List Addr := [910, 909, 917, 916, 922, 921, 929, 928, 936, 935, 943, 942, 950, 949, 957, 956, 964, 963, 971, 970, 976, 975, 983, 982, 988, 987, 995, 994, 1002, 1001]
def lit10 : List Addr := [1009, 1008, 1016, 1015, 1021, 1020, 1028, 1027, 1035, 1034, 1042, 1041, 1049, 1048, 1056, 1055, 1063, 1062, 1070, 1069, 1077, 1076, 1078, 1085, 1084, 1086, 1087, 1088, 1095, 1094]
def lit11 : List Addr := [1102, 1101, 1109, 1108]
def lits : List Addr := lit0 ++ lit1 ++ lit2 ++ lit3 ++ lit4 ++ lit5 ++ lit6 ++ lit7 ++ lit8 ++ lit9 ++ lit10 ++ lit11
def obsCG (g : Addr → Option Obj) : AlC := obsC (He.frG g lits)
def hookC : Hook where
  α := AlC
  obs := fun s => obsCG s.heap.get?
  val := fun _ => valC
  says := fun _ h => ∃ K : Frag, K.In h ∧ SaysC K
  of := fun _ _ e => ⟨_, He.frG_in, e⟩
  keeps := fun _ _ _ ⟨K, hK, c⟩ k => ⟨K, Frag.In.keeps hK k, c⟩
def ob (s : SharedT) : AlC := obsCG (HandSHeadRun.getT s)
theorem ob_eq (s : SharedT) : ob s = hookC.obs s.abs := by
  have e : HandSHeadRun.getT s = s.abs.heap.get? := funext (HandSHeadRun.getT_eq s)
  show obsCG (HandSHeadRun.getT s) = obsCG s.abs.heap.get?
  rw [e]
noncomputable def endS (w : World) (os : OsState) : Option SharedT := HandSHeadRun.endF (HandSHeadRun.stepQ (HandSHeadRun.denQ HandSHeadRun.tabQ) Rw.prog w) 9000 Rw.prog w os
def frS (s : SharedT) : Frag := He.frG (HandSHeadRun.getT s) lits
theorem run_a (w : World) (os : OsState) : (endS w os).map (fun s => HandSHeadRun.looksF Rw.prog (boot_heap w.params) s.abs) = some true := by
  kernel_rfl
theorem run_b (w : World) (os : OsState) : (endS w os).map (fun s => HandSHeadRun.seenQ qv loose (importedModules Rw.prog.main.body) (fun s => xlAt qv [] s && recOk [] s) s.abs) = some (openGood qv loose) := by
  kernel_rfl
theorem run_c (w : World) (os : OsState) : (endS w os).map (fun s => fas.all fun f => f.ok (frS s)) = some true := by
  kernel_rfl
theorem run_d (w : World) (os : OsState) : (endS w os).map (fun s => (fns.take 85).all fun d => d.ok (frS s)) = some true := by
  kernel_rfl
theorem run_f (w : World) (os : OsState) : (endS w os).map (fun s => ((fns.drop 85).all fun d => d.ok (frS s)) && (tupsB (frS s) && (excsB (frS s) && exmsB (frS s)))) = some true := by
  kernel_rfl
theorem run_e (w : World) (os : OsState) : (endS w os).map (fun s => fns.map fun d => He.fnW (frS s) d.at_) = some (fns.map He.DefD.val) := by
  kernel_rfl
end CK
namespace CK
open PySem PySem.W PySem.Calls PyProof.Rows
theorem top_run (w : World) (os : OsState) : (HandSHeadRun.endF (HandSHeadRun.stepQ (HandSHeadRun.denQ HandSHeadRun.tabQ) Rw.prog w) 9000 Rw.prog w os).map (fun s => (HandSHeadRun.looksF Rw.prog (boot_heap w.params) s.abs, HandSHeadRun.seenQ qv loose (importedModules Rw.prog.main.body) (fun s => xlAt qv [] s && recOk [] s) s.abs, ob s)) = some (true, openGood qv loose, valC) := by
  obtain ⟨s, hs, ha⟩ := Option.map_eq_some_iff.mp (run_a w os)
  have hb := run_b w os
  have hc := run_c w os
  have hd := run_d w os
  have he := run_e w os
  have hf := run_f w os
  rw [hs] at hb hc hd he hf
  have hb' := Option.some.inj hb
  have hc' : (fas.all fun f => f.ok (frS s)) = true := Option.some.inj hc
  have hd' : ((fns.take 85).all fun d => d.ok (frS s)) = true := Option.some.inj hd
  have he' : (fns.map fun d => He.fnW (frS s) d.at_) = fns.map He.DefD.val := Option.some.inj he
  have hf' : (((fns.drop 85).all fun d => d.ok (frS s)) && (tupsB (frS s) && (excsB (frS s) && exmsB (frS s)))) = true := Option.some.inj hf
  show (endS w os).map _ = _
  rw [hs]
  show some (_, _, ob s) = some (true, openGood qv loose, valC)
  have ho : ob s = valC := by
    show (allB (frS s), fns.map fun d => He.fnW (frS s) d.at_) = (true, fns.map He.DefD.val)
    rw [he']
    have hall : (fns.all fun d => d.ok (frS s)) = true := by
      rw [Bool.and_eq_true] at hf'
      rw [← List.take_append_drop 85 fns, List.all_append, hd', hf'.1]
      rfl
    unfold allB
    rw [Bool.and_eq_true, Bool.and_eq_true, Bool.and_eq_true] at hf'
    rw [hc', hall, hf'.2.1, hf'.2.2.1, hf'.2.2.2]
    rfl
  rw [ho]
  exact congrArg some (Prod.ext ha (Prod.ext hb' rfl))
end CK
namespace CK
open PySem PySem.W PySem.Calls PyProof.Rows L2
theorem left : LeftO Rw.prog qv loose (fun s => xlAt qv [] s && recOk [] s) hookC.obs hookC.val 9600 true :=
  HandSHeadRun.left_one (M := 9000) (by kernel_rfl) (Nat.ble_eq_true_of_le (by omega)) (fun s => by kernel_rfl) (Nat.ble_eq_true_of_le (by omega)) fun w os => by
    have z := top_run w os
    have eo : ob = fun s => hookC.obs s.abs := funext ob_eq
    rw [eo] at z
    simp only [HandSHeadRun.endQ_eq, HandSHeadRun.seenQ_eq]
    exact z
/-- the row from the promise of its def -/
theorem walk_specE {r : OpenSpec} {k : Nat} {q : Program} {loose : List Str} {XP : (Str → Option Value) → Heap → Prop} {YP : World → Heap → Prop} {d : DefRec} {CX : CXT} {ps : List Str} {sp : Frag → Sp}
    (hwell : r.wellSaid = true) (hlen : r.args.length = ps.length) (hr : Room k callerA)
    (F : ∀ (w : World) (mg : Str → Option Value) (fa : Addr) (h : Heap), YP w h → h.Ns mainGlobals mg → mg d.name = some (.ref fa) →
      ∃ (K : Frag) (fd : FuncData), K.In h ∧ (∀ (s : Shared) (us : List Value), us.length = ps.length → BindsTo s fd ⟨us, []⟩ (ps.zip us)) ∧
        ∀ base : Heap, K.In base → base.Ns mainGlobals mg → FnOk r.prog w K mg base CX k fa fd ps (sp K))
    (hsp : ∀ (K : Frag) (H : Hp) (xs : List V) (a : Codec.denoteAll r.args), OnlyF H → Codec.withinAll r.args a = true → Codec.app r.args r.asked a = true → DwAll K H xs (Codec.encAll r.args a) →
      sp K xs H (fun v H' => Dw K H' v (r.ret.enc (Codec.app r.args r.f a))) fun _ _ _ => False)
    (hCX : ∀ (H : Hp) (s : Shared) (e : Value) (s' : Shared), CX [] H s (fun _ _ _ => False) e s' → False) :
    WalkOS q loose XP YP r d [] (fun f vs => PySem.call f vs) := by
  intro w s₀ s₁ mg mb G Y fa o pm cd doc dV kV ho hd hcd hD hmg hg args vals as hpre hlay hrd hwl hlo
  obtain ⟨a, e1, e2⟩ := os_pre_some hpre
  obtain ⟨e3, hwi⟩ := Codec.encAll_of_decAll r.args args a e1
  subst e3
  obtain ⟨K, fd, KX, hb, hF⟩ := F w mg fa _ Y G.T.g hmg
  have hds := layable_weight hlay
  have hl : (Codec.encAll r.args a).length = ps.length := (encAll_len _ _).trans hlen
  have main := spec_call (P := r.prog) (w := w) (R := []) (cl := classAt s₀.heap) (d0 := r.ret.enc (Codec.app r.args r.f a)) KX G.T.g G.T.b G.T.builtins G.T.nolimit hg hwl
    (pl_encAll _ _) hds hr hF hb hl (fun H xs hO hS => hsp K H xs a hO hwi e2 hS) (fun H e s' => hCX H s₁ e s')
  refine enter_call (codeAny_mono main fun r' s' hq => ?_)
  obtain ⟨u, as', rfl, h1, h2, h3, h4⟩ := hq
  refine ⟨.inl ⟨u, _, as', rfl, fun _ => rfl, h1, ?_, fun z => Bool.noConfusion (show false = true from z)⟩, h2, h3, h4⟩
  exact (OpenSpec.post_iff hwell hwi _ _).mpr rfl
theorem holds_by {k : Nat} {CX : CXT} {sp : Frag → Sp} (hr : Room k callerA)
    (F : ∀ (w : World) (mg : Str → Option Value) (fa : Addr) (h : Heap) (K : Frag), K.In h → SaysC K → h.Ns mainGlobals mg → mg ("answers" : Str) = some (.ref fa) →
      ∃ fd : FuncData, (∀ (s : Shared) (us : List Value), us.length = 1 → BindsTo s fd ⟨us, []⟩ ((["calls"] : List Str).zip us)) ∧
        ∀ base : Heap, K.In base → base.Ns mainGlobals mg → FnOk Rw.prog w K mg base CX k fa fd ["calls"] (sp K))
    (hsp : ∀ (K : Frag) (H : Hp) (xs : List V) (a : Codec.denoteAll Rw.args), OnlyF H → Codec.withinAll Rw.args a = true → Codec.app Rw.args Rw.asked a = true → DwAll K H xs (Codec.encAll Rw.args a) →
      sp K xs H (fun v H' => Dw K H' v (Rw.ret.enc (Codec.app Rw.args Rw.f a))) fun _ _ _ => False)
    (hCX : ∀ (H : Hp) (s : Shared) (e : Value) (s' : Shared), CX [] H s (fun _ _ _ => False) e s' → False) : Rw.Holds := by
  refine holds_os (r := Rw) (q := qv) (loose := loose) (XP := XL qv []) (YP := hookC.says) (d := HandSHeadRun.topDef Rw.prog ansAt) (kwd := []) left hookC.of hookC.keeps
    (fun s z => xl_of s (Bool.and_eq_true_iff.mp z).1) XL.keeps (by kernel_rfl) (by kernel_rfl) (by kernel_rfl) (fun s z => recFacts_of (Bool.and_eq_true_iff.mp z).2) os_shapes (by decide +kernel) (by decide +kernel)
    ⟨rfl, rfl, rfl, rfl, rfl, by decide +kernel⟩ ⟨[.list [.int 0]], by decide +kernel, by decide +kernel⟩ ?_
  refine walk_specE (k := k) (ps := ["calls"]) (sp := sp) (by decide +kernel) rfl hr (fun w mg fa h Y G hmg0 => ?_) hsp hCX
  obtain ⟨K, KX, c⟩ := Y
  have hmg : mg ("answers" : Str) = some (.ref fa) := by
    have e : (HandSHeadRun.topDef Rw.prog ansAt).name = ("answers" : Str) := by kernel_rfl
    rw [← e]
    exact hmg0
  obtain ⟨fd, hb, hF⟩ := F w mg fa h K KX c G hmg
  exact ⟨K, fd, KX, hb, hF⟩
end CK
/-! words of our own: a def by its name, a method, a class that makes, and their calls -/
namespace CK
open PySem PySem.Spec PyProof.Rows L2 Evl
/-- the def x of the module keeps the promise sp by k rooms -/
structure Has (P : Program) (w : World) (K : PySem.W.Frag) (mg : Str → Option Value) (base : Heap) (CX : CXT) (x : Str) (k : Nat) (ps : List Str) (sp : Sp) : Prop where
  m : mg x = some (.ref (He.ga K x))
  kp : PySem.W.keepIn K (.ref (He.ga K x)) = true
  fn : ∃ fd, Binds K fd ps [] ∧ FnOk P w K mg base CX k (He.ga K x) fd ps sp
/-- the method m of the class x -/
structure HasM (P : Program) (w : World) (K : PySem.W.Frag) (mg : Str → Option Value) (base : Heap) (CX : CXT) (x m : Str) (k : Nat) (ps : List Str) (sp : Sp) : Prop where
  cl : Cls K (He.ga K x)
  me : Meth K (He.ga K x) m (He.ma K (He.ga K x) m)
  fn : ∃ fd, Binds K fd ps [] ∧ FnOk P w K mg base CX k (He.ma K (He.ga K x) m) fd ps sp
/-- the class x is called -/
structure HasC (P : Program) (w : World) (K : PySem.W.Frag) (mg : Str → Option Value) (base : Heap) (x : Str) (k : Nat) (ps : List Str) (sp : Sp) : Prop where
  m : mg x = some (.ref (He.ga K x))
  maker : Mk K (He.ga K x) (He.ma K (He.ga K x) "__init__")
  fn : ∃ fd, Binds K fd ps [] ∧ FnOk P w K mg base CX0 k (He.ma K (He.ga K x) "__init__") fd ps sp
section
variable {X : Cx} {CX : CXT} {k : Nat} {ps : List Str} {sp : Sp} {x m : Str} {p pos apos : Pos} {e o : Expr} {es : List Expr} {ta : TE} {t : TA}
theorem pe_h (F : Has X.prog X.w X.K X.mg X.base CX0 x k ps sp) (hr : Room k X.A) (hg : Gl X x) (ha : PA X (e :: es) t) (hd : (x == ("__debug__" : Str)) = false := by decide)
    (he : starEach (e :: es) X.env = (false, eval e X.env) :: starEach es X.env := by rfl) (hp : (backTo pos (starEach es X.env)).any (·.1) = false := by rfl) :
    PE X (.Call (.Name x p) (e :: es) [] pos) (tCall sp [] E0 t) := by
  obtain ⟨fd, b, f⟩ := F.fn
  exact pe_call f hr hg F.m F.kp b .nil pass0 ha hd he hp
theorem pe_h0 (F : Has X.prog X.w X.K X.mg X.base CX0 x k ps sp) (hr : Room k X.A) (hg : Gl X x) (hd : (x == ("__debug__" : Str)) = false := by decide) :
    PE X (.Call (.Name x p) [] [] pos) (fun σ H Q => sp [] H Q E0) := by
  obtain ⟨fd, b, f⟩ := F.fn
  exact pe_call0 f hr hg F.m F.kp b .nil pass0 hd
theorem pe_hS {W : WX} (F : Has X.prog X.w X.K X.mg X.base (L2.CX X.prog X.w) x k ps sp) (hr : Room k X.A) (hg : Gl X x) (tk : Takes X W) (ha : PA X (e :: es) t) (hd : (x == ("__debug__" : Str)) = false := by decide)
    (he : starEach (e :: es) X.env = (false, eval e X.env) :: starEach es X.env := by rfl) (hp : (backTo pos (starEach es X.env)).any (·.1) = false := by rfl) :
    PE X (.Call (.Name x p) (e :: es) [] pos) (tCallS sp (WE W) t) := by
  obtain ⟨fd, b, f⟩ := F.fn
  exact pe_callS f hr hg F.m F.kp b (fun σ => passAt tk σ) ha hd he hp
theorem pe_mk (F : HasC X.prog X.w X.K X.mg X.base x k ps sp) (hr : Room (k + 1) X.A) (hg : Gl X x) (ha : PA X (e :: es) t) (hd : (x == ("__debug__" : Str)) = false := by decide)
    (he : starEach (e :: es) X.env = (false, eval e X.env) :: starEach es X.env := by rfl) (hp : (backTo pos (starEach es X.env)).any (·.1) = false := by rfl) :
    PE X (.Call (.Name x p) (e :: es) [] pos) (tMake (He.ga X.K x) sp [] E0 t) := by
  obtain ⟨fd, b, f⟩ := F.fn
  exact pe_make F.maker f hr hg F.m b .nil pass0 ha hd he hp
theorem pe_mk0 (F : HasC X.prog X.w X.K X.mg X.base x k ps sp) (hr : Room (k + 1) X.A) (hg : Gl X x) (hd : (x == ("__debug__" : Str)) = false := by decide) :
    PE X (.Call (.Name x p) [] [] pos) (tMake (He.ga X.K x) sp [] E0 tNil) := by
  obtain ⟨fd, b, f⟩ := F.fn
  exact pe_make0 F.maker f hr hg F.m b .nil pass0 hd
/-- constants of the module -/
theorem pe_gi {i : Int} (h : ∃ t, X.mg x = some (.int i t)) (hg : Gl X x) (hd : (x == ("__debug__" : Str)) = false := by decide) : PE X (.Name x pos) (tC (.int i)) := by
  obtain ⟨t, h⟩ := h
  exact pe_glob hg h ⟨t, rfl⟩ hd
theorem pe_gs {z : Str} (h : ∃ t, X.mg x = some (.str z t)) (hg : Gl X x) (hd : (x == ("__debug__" : Str)) = false := by decide) : PE X (.Name x pos) (tC (.str z)) := by
  obtain ⟨t, h⟩ := h
  exact pe_glob hg h ⟨t, rfl⟩ hd
theorem pe_gr {a : Addr} (h : X.mg x = some (.ref a)) (hg : Gl X x) (hd : (x == ("__debug__" : Str)) = false := by decide) : PE X (.Name x pos) (tC (.ref a)) := pe_glob hg h rfl hd
end
section
variable {P : Program} {w : World} {K : PySem.W.Frag} {mg : Str → Option Value} {base : Heap}
/-- a def that lets no error out, from its body -/
theorem has_of {x : Str} {st : Stmt} {N ps : List Str} {k : Nat} {sp : Sp} (m : mg x = some (.ref (He.ga K x))) (D : ∃ fd, FunD K x x (defArgs st) (defBody st) (defScope st) [] [] (He.ga K x) fd) (S : FnScope N ps (defScope st)) (B : Bi st x x ps)
    (len : ∀ vs H Q E, sp vs H Q E → vs.length = ps.length)
    (body : ∀ (cdv : Value) (A : Around) (outer : List Env) (s : Shared) (H : Hp) (vs : List V) (Q : VK) (E : XK), Room k (A.deeper (envOfC x (defScope st) s.heap.objs.size (He.ga K x) cdv)) → sp vs H Q E →
      ∃ t, PSs (cxOf CX0 P w K mg base N x (defScope st) (He.ga K x) cdv A outer s H E).nox (defBody st) t ∧ t { nx := fun _ H' => Q .non H', rt := Q } (start N vs) H) : Has P w K mg base CX0 x (k + 1) ps sp := by
  obtain ⟨fd, F⟩ := D
  refine ⟨m, F.kp, fd, F.bindsN B, F.ok S len fun cdv A outer s H vs Q E hr h => ?_⟩
  obtain ⟨t, h1, h2⟩ := body cdv A outer s H vs Q E hr h
  exact ⟨t, h1.nox, h2⟩
/-- one that may -/
theorem has_ofX {x : Str} {st : Stmt} {N ps : List Str} {k : Nat} {sp : Sp} (m : mg x = some (.ref (He.ga K x))) (D : ∃ fd, FunD K x x (defArgs st) (defBody st) (defScope st) [] [] (He.ga K x) fd) (S : FnScope N ps (defScope st)) (B : Bi st x x ps)
    (len : ∀ vs H Q E, sp vs H Q E → vs.length = ps.length)
    (body : ∀ (cdv : Value) (A : Around) (outer : List Env) (s : Shared) (H : Hp) (vs : List V) (Q : VK) (E : XK), Room k (A.deeper (envOfC x (defScope st) s.heap.objs.size (He.ga K x) cdv)) → sp vs H Q E →
      ∃ t, PSs (cxOf (L2.CX P w) P w K mg base N x (defScope st) (He.ga K x) cdv A outer s H E) (defBody st) t ∧ t { nx := fun _ H' => Q .non H', rt := Q } (start N vs) H) : Has P w K mg base (L2.CX P w) x (k + 1) ps sp := by
  obtain ⟨fd, F⟩ := D
  exact ⟨m, F.kp, fd, F.bindsN B, F.ok S len body⟩
theorem hasC_of {x q : Str} {st : Stmt} {N ps : List Str} {k : Nat} {sp : Sp} (m : mg x = some (.ref (He.ga K x))) (M : Mk K (He.ga K x) (He.ma K (He.ga K x) "__init__"))
    (D : ∃ fd, FunD K "__init__" q (defArgs st) (defBody st) (defScope st) [] [] (He.ma K (He.ga K x) "__init__") fd) (S : FnScope N ps (defScope st)) (B : Bi st "__init__" q ps)
    (len : ∀ vs H Q E, sp vs H Q E → vs.length = ps.length)
    (body : ∀ (cdv : Value) (A : Around) (outer : List Env) (s : Shared) (H : Hp) (vs : List V) (Q : VK) (E : XK), Room k (A.deeper (envOfC q (defScope st) s.heap.objs.size (He.ma K (He.ga K x) "__init__") cdv)) → sp vs H Q E →
      ∃ t, PSs (cxOf CX0 P w K mg base N q (defScope st) (He.ma K (He.ga K x) "__init__") cdv A outer s H E).nox (defBody st) t ∧ t { nx := fun _ H' => Q .non H', rt := Q } (start N vs) H) : HasC P w K mg base x (k + 1) ps sp := by
  obtain ⟨fd, F⟩ := D
  refine ⟨m, M, fd, F.bindsN B, F.ok S len fun cdv A outer s H vs Q E hr h => ?_⟩
  obtain ⟨t, h1, h2⟩ := body cdv A outer s H vs Q E hr h
  exact ⟨t, h1.nox, h2⟩
end
/-! ### promises of one shape: a value is handed back, nothing that was tracked changes -/
theorem sp_v {sp : Sp} {vs : List V} {H : Hp} {z : V} (h : ∀ H1, Ex H H1 → ∀ (Q : VK) (E : XK), RetV z H1 Q → sp vs H1 Q E) : SpV sp vs H z := fun H1 e Q q E => h H1 e Q E q
theorem sp_l {sp : Sp} {vs xs : List V} {H : Hp} (h : ∀ H1, Ex H H1 → ∀ (Q : VK) (E : XK), RetL xs H1 Q → sp vs H1 Q E) : SpL sp vs H xs := fun H1 e Q q E => h H1 e Q E q
theorem ev_h {sp : Sp} {σ : L2.St} {H : Hp} {vs : List V} {E : XK} {ta : TA} {z : V} (h : EvA ta σ H vs) (hs : ∀ H1, Ex H H1 → ∀ (Q : VK) (E : XK), RetV z H1 Q → sp vs H1 Q E) : Ev (tCall sp [] E ta) σ H z :=
  ev_call h (by rw [List.append_nil]; exact sp_v hs)
theorem el_h {sp : Sp} {σ : L2.St} {H : Hp} {vs xs : List V} {E : XK} {ta : TA} (h : EvA ta σ H vs) (hs : ∀ H1, Ex H H1 → ∀ (Q : VK) (E : XK), RetL xs H1 Q → sp vs H1 Q E) : EvL (tCall sp [] E ta) σ H xs :=
  el_call h (by rw [List.append_nil]; exact sp_l hs)

/-! ### the layer's rules with the written part as a letter of its own -/
section
variable {X : Cx} {p pos apos : Pos} {e o a b : Expr} {es : List Expr} {ta tb te to : TE} {t : TA} {f : Str} {tg l : Expr} {tl : TE}
theorem ixL (K : PySem.W.Frag) (h : X.K = K := by rfl) : IxR X (rIxL K) := by subst h; exact ix_list
theorem ixT (K : PySem.W.Frag) (h : X.K = K := by rfl) : IxR X (rIxT K) := by subst h; exact ix_tup
theorem cLen (K : PySem.W.Frag) (h : X.K = K := by rfl) : CallR X (.builtin "len") (rLenS K) := by subst h; exact call_len_seq
theorem cAll (K : PySem.W.Frag) (hc : X.calm = true := by rfl) (h : X.K = K := by rfl) : CallR X (.builtin "all") (rAll K) := by subst h; exact cr_all hc
theorem inS (K : PySem.W.Frag) (h : X.K = K := by rfl) : OpR X (compareOp .In) (rIn K false) := by subst h; exact op_in_seq
theorem niS (K : PySem.W.Frag) (h : X.K = K := by rfl) : OpR X (compareOp .NotIn) (rIn K true) := by subst h; exact op_notIn_seq
theorem inD (K : PySem.W.Frag) (hu : X.A.units + 65 < cLine) (h : X.K = K := by rfl) : OpR X (compareOp .In) (rInD K) := by subst h; exact op_inD hu
theorem slL (K : PySem.W.Frag) (h : X.K = K := by rfl) : SlR X (rSlL K) := by subst h; exact sl_list
theorem piL (K : PySem.W.Frag) (hl : PE X l tl) (h : X.K = K := by rfl) : PI X tg l (iList K tl) := by subst h; exact pi_list hl
theorem piT (K : PySem.W.Frag) (hl : PE X l tl) (h : X.K = K := by rfl) : PI X tg l (iTup K tl) := by subst h; exact pi_tup hl
theorem pe_f (K : PySem.W.Frag) (he : PE X e ta) (hb : attributeBase e f X.env (eval e X.env) = eval e X.env := by rfl) (h : X.K = K := by rfl) : PE X (.Attribute e f pos) (tFld K ta f) := by
  subst h
  exact pe_fld he hb
theorem ps_f (K : PySem.W.Frag) {value : Expr} {tv : TE} {pos' : Pos} (ha : PE X o ta) (hv : PE X value tv) (hs : swapsWith value (some (.Attribute o f pos')) pos.line X.env = pure false := by rfl) (h : X.K = K := by rfl) :
    PS X (.Assign [.Attribute o f pos'] value pos) (sFld K ta tv f) := by
  subst h
  exact ps_fld ha hv hs
theorem pe_bmK (K : PySem.W.Frag) {name : Str} {T id : String} {r : V → List V → Hp → VK → Prop} (pa : PlainAttrs T) (slot : Slot T name id) (hty : typeOf (.builtin id) = pure (.type "method_descriptor")) (hm : MtR X id r) (ho : PE X o to) (ha : PA X (e :: es) t)
    (hbase : attributeBase o name X.env (eval o X.env) = eval o X.env := by rfl)
    (hfew : ((backTo pos (starEach (e :: es) X.env)).all (fun x => !x.1) && (backToKw pos (keywordEach [] X.env)).all (fun x => x.1.isSome)
      && decide ((e :: es).length + ([] : List Keyword).length + (if ([] : List Keyword).isEmpty then 0 else 1) < 30)) = true := by rfl)
    (hline : (apos.endLine == pos.line) = true := by rfl) (hs : starEach (e :: es) X.env = (false, eval e X.env) :: starEach es X.env := by rfl) (hplain : (backTo pos (starEach es X.env)).any (·.1) = false := by rfl) (h : X.K = K := by rfl) :
    PE X (.Call (.Attribute o name apos) (e :: es) [] pos) (tBM K T r to t) := by
  subst h
  exact pe_bm pa slot hty hm ho ha hbase hfew hline hs hplain
theorem mtIndex (K : PySem.W.Frag) (h : X.K = K := by rfl) : MtR X "list.index" (rIndex K) := by subst h; exact mt_index
def rJoin (K : PySem.W.Frag) : V → List V → Hp → VK → Prop := fun x xs H Q => ∃ a p, ∃ ys : List Str, x = .str a ∧ xs = [.ref p] ∧ (SqL K H p (ys.map V.str) ∨ SqT K H p (ys.map V.str)) ∧
  (ys.map (·.length)).sum + ys.length * a.length ≤ 16777216 ∧ Q (.str (Txt.join a ys)) H
theorem pe_jn (K : PySem.W.Frag) (ho : PE X o to) (he : PE X e te) (hs : starEach [e] X.env = [(false, eval e X.env)] := by rfl) (hbase : attributeBase o "join" X.env (eval o X.env) = eval o X.env := by rfl) (hline : (apos.endLine == pos.line) = true := by rfl) (h : X.K = K := by rfl) :
    PE X (.Call (.Attribute o "join" apos) [e] [] pos) (tM1 (rJoin K) to te) := by
  subst h
  exact pe_join ho he hs hbase hline
theorem piE (K : PySem.W.Frag) {tpos : Pos} {elts : List Expr} {kk : Nat} (hg : Gl X "enumerate") (hm : X.mg "enumerate" = none) (ha : PA X [e] t) (hs : starEach [e] X.env = [(false, eval e X.env)] := by rfl) (h : X.K = K := by rfl) :
    PI X (.Tuple elts kk tpos) (.Call (.Name "enumerate" p) [e] [] pos) (iEnum K t) := by
  subst h
  exact pi_enum hg hm ha hs
theorem piZ (K : PySem.W.Frag) {e2 : Expr} {tpos : Pos} {elts : List Expr} {kk : Nat} (hg : Gl X "zip") (hm : X.mg "zip" = none) (ha : PA X [e, e2] t)
    (hs : starEach [e, e2] X.env = (false, eval e X.env) :: starEach [e2] X.env := by rfl) (hpl : (backTo pos (starEach [e2] X.env)).any (·.1) = false := by rfl) (h : X.K = K := by rfl) :
    PI X (.Tuple elts kk tpos) (.Call (.Name "zip" p) [e, e2] [] pos) (iZip K t) := by
  subst h
  exact pi_zip hg hm ha hs hpl
theorem boot_all' : bootBuiltins "all" = some (.builtin "all") := by decide +kernel
theorem boot_any' : bootBuiltins "any" = some (.builtin "any") := by decide +kernel
theorem boot_ord' : bootBuiltins "ord" = some (.builtin "ord") := by decide +kernel
theorem boot_int' : bootBuiltins "int" = some (.type "int") := by decide +kernel
theorem boot_list' : bootBuiltins "list" = some (.type "list") := by decide +kernel
end
theorem pe_mkK {X : Cx} (K : PySem.W.Frag) {x : Str} {k : Nat} {ps : List Str} {sp : Sp} {p pos : Pos} {e : Expr} {es : List Expr} {t : TA} (F : HasC X.prog X.w X.K X.mg X.base x k ps sp) (hr : Room (k + 1) X.A) (hg : Gl X x) (ha : PA X (e :: es) t) (hd : (x == ("__debug__" : Str)) = false := by decide)
    (he : starEach (e :: es) X.env = (false, eval e X.env) :: starEach es X.env := by rfl) (hp : (backTo pos (starEach es X.env)).any (·.1) = false := by rfl) (h : X.K = K := by rfl) :
    PE X (.Call (.Name x p) (e :: es) [] pos) (tMake (He.ga K x) sp [] E0 t) := by
  subst h
  exact pe_mk F hr hg ha hd he hp
theorem pe_mkK0 {X : Cx} (K : PySem.W.Frag) {x : Str} {k : Nat} {ps : List Str} {sp : Sp} {p pos : Pos} (F : HasC X.prog X.w X.K X.mg X.base x k ps sp) (hr : Room (k + 1) X.A) (hg : Gl X x) (hd : (x == ("__debug__" : Str)) = false := by decide) (h : X.K = K := by rfl) :
    PE X (.Call (.Name x p) [] [] pos) (tMake (He.ga K x) sp [] E0 tNil) := by
  subst h
  exact pe_mk0 F hr hg hd
theorem pgT {X : Cx} (K : PySem.W.Frag) {es : List Expr} {k : Nat} {t : TGs} {pos : Pos} (n : Nat) (h : PGs X es t) (hc : X.calm = true := by rfl) (hn : (assignEach es X.env).length = n := by rfl) (hst : (assignEach es X.env).findIdx? (·.1) = none := by rfl) (hK : X.K = K := by rfl) :
    PG X (.Tuple es k pos) (gTup K n t) := by
  subst hK
  exact pg_tup hc h hn hst
/-- two comparisons in a row, the middle asked once -/
theorem ev_chain {σ : L2.St} {H : Hp} {ta tb tc : TE} {r r' : R2} {x y z : V} {a b : Bool} (ha : Ev ta σ H x) (hb : Ev tb σ H y) (hr : RV r x y H (.bl a)) (hc : a = true → Ev tc σ H z) (hr' : a = true → RV r' y z H (.bl b)) : Ev (tChain r r' ta tb tc) σ H (.bl (a && b)) := fun H1 e1 Q q =>
  ha H1 e1 _ fun H2 e2 => hb H2 (e1.trans e2) _ fun H3 e3 => hr H3 ((e1.trans e2).trans e3) _ fun H4 e4 => ⟨a, rfl, by
    cases a with
    | true =>
      show tc σ H4 fun z H5 => r' y z H5 Q
      exact hc rfl H4 (((e1.trans e2).trans e3).trans e4) _ fun H5 e5 => hr' rfl H5 ((((e1.trans e2).trans e3).trans e4).trans e5) Q fun H6 e6 => q H6 ((((e2.trans e3).trans e4).trans e5).trans e6)
    | false =>
      show Q (.bl false) H4
      exact q H4 ((e2.trans e3).trans e4)⟩
/-- a text by its codes -/
def st (b : List Nat) : Str := ⟨b.toArray⟩
theorem st_len (b : List Nat) : (st b).length = b.length := by simp [st, Str.length]
theorem st_inj {a b : List Nat} (h : st a = st b) : a = b := by
  have := congrArg (fun s : Str => s.cps.toList) h
  simpa [st] using this
theorem st_app (a b : List Nat) : st a ++ st b = st (a ++ b) := by
  show Str.append (st a) (st b) = st (a ++ b)
  simp [Str.append, st]
theorem dec_st (a b : List Nat) : decide (V.str (st a) = V.str (st b)) = decide (a = b) := by
  by_cases h : a = b
  · subst h
    rw [decide_eq_true rfl, decide_eq_true rfl]
  · rw [decide_eq_false h, decide_eq_false]
    intro q
    injection q with q
    exact h (st_inj q)
/-- room for a deep comparison -/
theorem hu65 {A : Around} {k : Nat} (hr : Room k A) : A.units + 65 < cLine := by
  have := hr.un
  omega
end CK
/-! ### records of fields -/
namespace CK
open PySem PySem.Spec PyProof.Rows L2 Evl
theorem lk_here {k : Str} {v : V} {r : List (Str × V)} : List.lookup k ((k, v) :: r) = some v := by
  have e : (k == k) = true := beq_self_eq_true k
  simp only [List.lookup, e]
theorem lk_past {k g : Str} {v : V} {r : List (Str × V)} (h : (k == g) = false) : List.lookup k ((g, v) :: r) = List.lookup k r := by
  simp only [List.lookup, h]
theorem put_here {f : Str} {v x : V} {r : List (Str × V)} : putF f v ((f, x) :: r) = (f, v) :: r := if_pos rfl
theorem put_past {f g : Str} {v x : V} {r : List (Str × V)} (h : ¬ g = f) : putF f v ((g, x) :: r) = (g, x) :: putF f v r := if_neg h
/-- a new record -/
def EvR (te : TE) (σ : L2.St) (H : Hp) (C : Addr) (fs : List (Str × V)) : Prop := ∀ H1, Ex H H1 → ∀ Q : VK, (∀ p dx H2, H1 p = none → Ex H1 H2 → H2 p = some (.ins C dx fs) → Q (.ref p) H2) → te σ H1 Q
/-- __init__ stores each argument under its name -/
def sp_rec (K : PySem.W.Frag) (x : Str) (names : List Str) : Sp := fun vs H Q _ => ∃ (p dx : Addr) (vals : List V), vs = .ref p :: vals ∧ vals.length = names.length ∧ H p = some (.ins (He.ga K x) dx []) ∧ Q .non (upd H p (.ins (He.ga K x) dx (names.zip vals)))
theorem er_mk {K : PySem.W.Frag} {x : Str} {names : List Str} {σ : L2.St} {H : Hp} {ta : TA} {vals : List V} {E : XK} (h : EvA ta σ H vals) (hl : vals.length = names.length) : EvR (tMake (He.ga K x) (sp_rec K x names) [] E ta) σ H (He.ga K x) (names.zip vals) := fun H1 e1 Q q =>
  h H1 e1 _ fun H2 e2 => fun p dx hp hdx ne => ⟨p, dx, vals, by rw [List.append_nil], hl, upd_same, rfl, q p dx _ (fresh_back e2 hp) (e2.trans fun b o hb => by
    rw [upd_ne (ne_of_none hb hp), upd_ne (ne_of_none hb hp), upd_ne (ne_of_none hb hdx)]
    exact hb) upd_same⟩
theorem ev_fld {K : PySem.W.Frag} {σ : L2.St} {H : Hp} {ta : TE} {a C dx : Addr} {fs : List (Str × V)} {f : Str} {v : V} (h : Ev ta σ H (.ref a)) (ho : H a = some (.ins C dx fs)) (c : Cls K C) (n : NoAttr K C f) (l : fs.lookup f = some v) : Ev (tFld K ta f) σ H v := fun H1 e1 Q q =>
  h H1 e1 _ fun H2 e2 => ⟨a, C, dx, fs, v, rfl, e2 _ _ (e1 _ _ ho), c, n, l, q H2 e2⟩
theorem s_retR {te : TE} {σ : L2.St} {H : Hp} {C : Addr} {fs : List (Str × V)} {D : Ends} (h : EvR te σ H C fs) (k : ∀ p dx H1, H p = none → Ex H H1 → H1 p = some (.ins C dx fs) → D.rt (.ref p) H1) : tRet te D σ H := h H (Ex.refl H) _ k
theorem q_asgR {te : TE} {σ : L2.St} {H : Hp} {C : Addr} {fs : List (Str × V)} {D : Ends} {tz : TS} {i : Nat} (h : EvR te σ H C fs) (k : ∀ p dx H1, H p = none → Ex H H1 → H1 p = some (.ins C dx fs) → tz D (σ.set i (some (.ref p))) H1) : tSeq (tAsg te (gName i)) tz D σ H := h H (Ex.refl H) _ k
/-- xs.append(C(..)) -/
theorem s_appR {K : PySem.W.Frag} {σ : L2.St} {H : Hp} {D : Ends} {ta te : TE} {C l : Addr} {fs : List (Str × V)} {xs : List V} (hl : H l = some (.lst xs)) (ha : Ev ta σ H (.ref l)) (h : EvR te σ H C fs) (hz : xs.length < 100000)
    (k : ∀ p dx H1, H p = none → Ex H H1 → H1 p = some (.ins C dx fs) → D.nx σ (upd H1 l (.lst (xs ++ [.ref p])))) : tDrop (tBM K "list" rAppend ta (tCons te tNil)) D σ H := ha H (Ex.refl H) _ fun H1 e1 =>
  ⟨Or.inl ⟨rfl, xs, sq_of (e1 l _ hl)⟩, h H1 e1 _ fun p dx H2 hp e2 h2 => ⟨l, xs, .ref p, rfl, rfl, e2 l _ (e1 l _ hl), sz_lt hz, k p dx H2 (fresh_back e1 hp) (e1.trans e2) h2⟩⟩
theorem q_appR {K : PySem.W.Frag} {σ : L2.St} {H : Hp} {D : Ends} {ta te : TE} {tz : TS} {C l : Addr} {fs : List (Str × V)} {xs : List V} (hl : H l = some (.lst xs)) (ha : Ev ta σ H (.ref l)) (h : EvR te σ H C fs) (hz : xs.length < 100000)
    (k : ∀ p dx H1, H p = none → Ex H H1 → H1 p = some (.ins C dx fs) → tz D σ (upd H1 l (.lst (xs ++ [.ref p])))) : tSeq (tDrop (tBM K "list" rAppend ta (tCons te tNil))) tz D σ H := s_appR (D := { D with nx := tz D }) hl ha h hz k
/-! ### texts joined -/
theorem join_st (s : List Nat) (ls : List (List Nat)) : Txt.join (st s) (ls.map st) = st (TL.joinL s ls) := by
  rw [TL.join_eq]
  have h := TL.tl_join (st s) (ls.map st)
  have e : (ls.map st).map TL.tl = ls := by
    rw [List.map_map]
    exact List.map_id'' (f := TL.tl ∘ st) (fun x => rfl) ls
  rw [e] at h
  have : TL.tl (st s) = s := rfl
  rw [this] at h
  have e2 : ∀ z : Str, z = st (TL.tl z) := fun z => rfl
  rw [e2 (Str.join (st s) (ls.map st)), h]
theorem ev_join {K : PySem.W.Frag} {σ : L2.St} {H : Hp} {to te : TE} {s : List Nat} {ls : List (List Nat)} (h1 : Ev to σ H (.str (st s))) (h2 : EvL te σ H (ls.map fun l => V.str (st l))) (hz : (ls.map List.length).sum + ls.length * s.length ≤ 16777216) : Ev (tM1 (rJoin K) to te) σ H (.str (st (TL.joinL s ls))) := fun H1 e1 Q q =>
  h1 H1 e1 _ fun H2 e2 => ⟨⟨_, rfl⟩, h2 H2 (e1.trans e2) _ fun p H3 hp e3 h3 => ⟨st s, p, ls.map st, rfl, rfl, .inl (sq_of (by rw [h3, List.map_map]; rfl)), by
    rw [List.map_map, List.length_map, st_len]
    have e : ((fun x : Str => x.length) ∘ st) = List.length := funext st_len
    rw [e]
    exact hz, by rw [join_st]; exact q H3 (e2.trans e3)⟩⟩
theorem ev_joinA {K : PySem.W.Frag} {σ : L2.St} {H : Hp} {to te : TE} {s : List Nat} {ls : List (List Nat)} {p : Addr} (h1 : Ev to σ H (.str (st s))) (h2 : Ev te σ H (.ref p)) (h3 : SqL K H p (ls.map fun l => V.str (st l))) (hz : (ls.map List.length).sum + ls.length * s.length ≤ 16777216) : Ev (tM1 (rJoin K) to te) σ H (.str (st (TL.joinL s ls))) := fun H1 e1 Q q =>
  h1 H1 e1 _ fun H2 e2 => ⟨⟨_, rfl⟩, h2 H2 (e1.trans e2) _ fun H3 e3 => ⟨st s, p, ls.map st, rfl, rfl, .inl (by rw [List.map_map]; exact ex_l ((e1.trans e2).trans e3) h3), by
    rw [List.map_map, List.length_map, st_len]
    have e : ((fun x : Str => x.length) ∘ st) = List.length := funext st_len
    rw [e]
    exact hz, by rw [join_st]; exact q H3 (e2.trans e3)⟩⟩
end CK
/-! ### methods -/
namespace CK
open PySem PySem.Spec PyProof.Rows L2 Evl
/-- o.m(..) of a method that may raise -/
def tMethX (C : Addr) (m : Str) (sp : Sp) (W : WX) (ta : TE) (t : TA) : TE := fun σ H Q => ta σ H fun x H1 => ∃ a dx fs, x = .ref a ∧ H1 a = some (.ins C dx fs) ∧ fs.lookup m = none ∧ t σ H1 fun vs H2 => sp (x :: vs) H2 Q (WE W σ)
section
variable {X : Cx} {CX : CXT} {k : Nat} {ps : List Str} {sp : Sp} {x m : Str} {p pos apos : Pos} {e o : Expr} {es : List Expr} {ta : TE} {t : TA}
theorem pe_m (K : PySem.W.Frag) {pl : Sem Bool} (ho : PE X o ta) (F : HasM X.prog X.w X.K X.mg X.base CX0 x m k ps sp) (hr : Room k X.A) (ha : PA X (e :: es) t)
    (hst : starEach (e :: es) X.env = (false, eval e X.env) :: starEach es X.env := by rfl) (hpl : (backTo pos (starEach es X.env)).any (·.1) = false := by rfl)
    (ht : eval (.Call (.Attribute o m apos) (e :: es) [] pos) X.env = (do
      let ov ← eval o X.env
      standAt apos.atName
      let (f, first) ← holding [ov] (getMethod ov m pl)
      callWith pos f first (backTo pos (starEach (e :: es) X.env)) (backToKw pos (keywordEach [] X.env))) := by rfl) (hK : X.K = K := by rfl) :
    PE X (.Call (.Attribute o m apos) (e :: es) [] pos) (tMeth (He.ga K x) m sp [] E0 ta t) := by
  subst hK
  obtain ⟨fd, b, f⟩ := F.fn
  exact pe_meth ho F.cl F.me f hr b .nil pass0 ha hst hpl ht
theorem pe_m0 (K : PySem.W.Frag) {pl : Sem Bool} (ho : PE X o ta) (F : HasM X.prog X.w X.K X.mg X.base CX0 x m k ps sp) (hr : Room k X.A)
    (ht : eval (.Call (.Attribute o m apos) [] [] pos) X.env = (do
      let ov ← eval o X.env
      standAt apos.atName
      let (f, first) ← holding [ov] (getMethod ov m pl)
      callWith pos f first (backTo pos (starEach [] X.env)) (backToKw pos (keywordEach [] X.env))) := by rfl) (hK : X.K = K := by rfl) :
    PE X (.Call (.Attribute o m apos) [] [] pos) (tMeth (He.ga K x) m sp [] E0 ta tNil) := by
  subst hK
  obtain ⟨fd, b, f⟩ := F.fn
  exact pe_meth0 ho F.cl F.me f hr b .nil pass0 ht
theorem pe_mS (K : PySem.W.Frag) {pl : Sem Bool} {W : WX} (ho : PE X o ta) (F : HasM X.prog X.w X.K X.mg X.base (L2.CX X.prog X.w) x m k ps sp) (hr : Room k X.A) (tk : Takes X W) (ha : PA X (e :: es) t)
    (hst : starEach (e :: es) X.env = (false, eval e X.env) :: starEach es X.env := by rfl) (hpl : (backTo pos (starEach es X.env)).any (·.1) = false := by rfl)
    (ht : eval (.Call (.Attribute o m apos) (e :: es) [] pos) X.env = (do
      let ov ← eval o X.env
      standAt apos.atName
      let (f, first) ← holding [ov] (getMethod ov m pl)
      callWith pos f first (backTo pos (starEach (e :: es) X.env)) (backToKw pos (keywordEach [] X.env))) := by rfl) (hK : X.K = K := by rfl) :
    PE X (.Call (.Attribute o m apos) (e :: es) [] pos) (tMethX (He.ga K x) m sp W ta t) := by
  subst hK
  obtain ⟨fd, b, f⟩ := F.fn
  refine ⟨fun pins s σ H Q I h => PySem.W.methodCall_KW (pl := pl) (thn (ho.run pins s σ H _ I h) fun u s1 z => ?_) ht⟩
  obtain ⟨y, H1, I1, rx, a, dx, fs, ex, ea, l, q⟩ := z
  subst ex
  obtain rfl : u = Value.ref a := rx
  refine getmeth_ok I1 ea F.cl F.me l (PySem.W.callWith_K (first := [.ref a]) (h₀ := X.base) I.ok.mod.kin F.me.kp (thn (ha.run pos pins s1 σ H1 _ I1 q) fun us s2 z => ?_) hst hpl)
  obtain ⟨vs, H2, I2, r, q2⟩ := z
  exact ⟨I2.kIn, run_fnS (E := WE W) (us := .ref a :: us) (vs := .ref a :: vs) f hr b (passAt tk σ) I2 (.cons rfl r) q2⟩
theorem pe_mS0 (K : PySem.W.Frag) {pl : Sem Bool} {W : WX} (ho : PE X o ta) (F : HasM X.prog X.w X.K X.mg X.base (L2.CX X.prog X.w) x m k ps sp) (hr : Room k X.A) (tk : Takes X W)
    (ht : eval (.Call (.Attribute o m apos) [] [] pos) X.env = (do
      let ov ← eval o X.env
      standAt apos.atName
      let (f, first) ← holding [ov] (getMethod ov m pl)
      callWith pos f first (backTo pos (starEach [] X.env)) (backToKw pos (keywordEach [] X.env))) := by rfl) (hK : X.K = K := by rfl) :
    PE X (.Call (.Attribute o m apos) [] [] pos) (tMethX (He.ga K x) m sp W ta tNil) := by
  subst hK
  obtain ⟨fd, b, f⟩ := F.fn
  refine ⟨fun pins s σ H Q I h => PySem.W.methodCall_KW (pl := pl) (thn (ho.run pins s σ H _ I h) fun u s1 z => ?_) ht⟩
  obtain ⟨y, H1, I1, rx, a, dx, fs, ex, ea, l, q⟩ := z
  subst ex
  obtain rfl : u = Value.ref a := rx
  exact getmeth_ok I1 ea F.cl F.me l (PySem.W.callWith_K0 (first := [.ref a]) I1.kIn F.me.kp (run_fnS (E := WE W) (us := [.ref a]) (vs := [.ref a]) f hr b (passAt tk σ) I1 (.cons rfl .nil) q))
end
section
variable {P : Program} {w : World} {K : PySem.W.Frag} {mg : Str → Option Value} {base : Heap}
theorem hasM_of {x m q : Str} {st : Stmt} {N ps : List Str} {k : Nat} {sp : Sp} (cl : Cls K (He.ga K x)) (me : Meth K (He.ga K x) m (He.ma K (He.ga K x) m))
    (D : ∃ fd, FunD K m q (defArgs st) (defBody st) (defScope st) [] [] (He.ma K (He.ga K x) m) fd) (S : FnScope N ps (defScope st)) (B : Bi st m q ps) (len : ∀ vs H Q E, sp vs H Q E → vs.length = ps.length)
    (body : ∀ (cdv : Value) (A : Around) (outer : List Env) (s : Shared) (H : Hp) (vs : List V) (Q : VK) (E : XK), Room k (A.deeper (envOfC q (defScope st) s.heap.objs.size (He.ma K (He.ga K x) m) cdv)) → sp vs H Q E →
      ∃ t, PSs (cxOf CX0 P w K mg base N q (defScope st) (He.ma K (He.ga K x) m) cdv A outer s H E).nox (defBody st) t ∧ t { nx := fun _ H' => Q .non H', rt := Q } (start N vs) H) : HasM P w K mg base CX0 x m (k + 1) ps sp := by
  obtain ⟨fd, F⟩ := D
  refine ⟨cl, me, fd, F.bindsN B, F.ok S len fun cdv A outer s H vs Q E hr h => ?_⟩
  obtain ⟨t, h1, h2⟩ := body cdv A outer s H vs Q E hr h
  exact ⟨t, h1.nox, h2⟩
theorem hasM_ofX {x m q : Str} {st : Stmt} {N ps : List Str} {k : Nat} {sp : Sp} (cl : Cls K (He.ga K x)) (me : Meth K (He.ga K x) m (He.ma K (He.ga K x) m))
    (D : ∃ fd, FunD K m q (defArgs st) (defBody st) (defScope st) [] [] (He.ma K (He.ga K x) m) fd) (S : FnScope N ps (defScope st)) (B : Bi st m q ps) (len : ∀ vs H Q E, sp vs H Q E → vs.length = ps.length)
    (body : ∀ (cdv : Value) (A : Around) (outer : List Env) (s : Shared) (H : Hp) (vs : List V) (Q : VK) (E : XK), Room k (A.deeper (envOfC q (defScope st) s.heap.objs.size (He.ma K (He.ga K x) m) cdv)) → sp vs H Q E →
      ∃ t, PSs (cxOf (L2.CX P w) P w K mg base N q (defScope st) (He.ma K (He.ga K x) m) cdv A outer s H E) (defBody st) t ∧ t { nx := fun _ H' => Q .non H', rt := Q } (start N vs) H) : HasM P w K mg base (L2.CX P w) x m (k + 1) ps sp := by
  obtain ⟨fd, F⟩ := D
  exact ⟨cl, me, fd, F.bindsN B, F.ok S len body⟩
end
/-- what stands apart from r is as it was -/
def ExB (r : Addr) (H H' : Hp) : Prop := ∀ a o, a ≠ r → H a = some o → H' a = some o
theorem ExB.refl {r : Addr} (H : Hp) : ExB r H H := fun _ _ _ h => h
theorem ExB.trans {r : Addr} {H H1 H2 : Hp} (a : ExB r H H1) (b : ExB r H1 H2) : ExB r H H2 := fun x o n h => b x o n (a x o n h)
theorem Ex.b {r : Addr} {H H' : Hp} (e : Ex H H') : ExB r H H' := fun a o _ h => e a o h
theorem ExB.upd {r : Addr} {H : Hp} {o : HO} : ExB r H (L2.upd H r o) := fun a u n h => by rw [upd_ne n]; exact h
theorem ExB.fresh {r p : Addr} {H H' : Hp} (e : ExB r H H') (hr : H r ≠ none) (h : H' p = none) (hr' : H' r ≠ none) : H p = none := by
  cases q : H p with
  | none => rfl
  | some o =>
    by_cases z : p = r
    · subst z
      exact absurd h hr'
    · rw [e p o z q] at h
      cases h
end CK
/-! numbers of companies -/
namespace CK
open PySem L2
open Vbpxaf (bit members)
theorem bit_and : ∀ c : Fin 64, ∀ n : Fin 7, decide ((0 : Int) < Builtin.bitAnd ((c.val : Nat) : Int) ((2 ^ n.val : Nat) : Int)) = bit c.val n.val := by decide +kernel
theorem bit_and' {c n : Nat} (hc : c < 64) (hn : n < 7) : decide ((0 : Int) < Builtin.bitAnd (c : Int) ((2 ^ n : Nat) : Int)) = bit c n := bit_and ⟨c, hc⟩ ⟨n, hn⟩
theorem pow_lt {n m : Nat} (h : n < m) : 2 ^ n < 2 ^ m := Nat.pow_lt_pow_right (by omega) h
theorem pow_le {n m : Nat} (h : n ≤ m) : 2 ^ n ≤ 2 ^ m := Nat.pow_le_pow_right (by omega) h
theorem pow64 {n : Nat} (h : n ≤ 6) : 2 ^ n ≤ 64 := pow_le (m := 6) h
/-- an officer who is in the company is no more than it; one who isn't leaves room -/
theorem bit_ge {c n : Nat} (h : bit c n = true) : 2 ^ n ≤ c := by
  unfold Vbpxaf.bit at h
  have h1 : c / 2 ^ n % 2 = 1 := by simpa using h
  have hp : 0 < 2 ^ n := Nat.two_pow_pos n
  rcases Nat.lt_or_ge c (2 ^ n) with hc | hc
  · rw [Nat.div_eq_of_lt hc] at h1
    omega
  · exact hc
theorem bit_add : ∀ k : Fin 7, ∀ c : Fin 64, ∀ n : Fin 6, n.val < k.val → c.val < 2 ^ k.val → bit c.val n.val = false → c.val + 2 ^ n.val < 2 ^ k.val := by decide +kernel
theorem bit_add' {k c n : Nat} (hk : k ≤ 6) (hn : n < k) (hc : c < 2 ^ k) (h : bit c n = false) : c + 2 ^ n < 2 ^ k :=
  bit_add ⟨k, by omega⟩ ⟨c, by have := pow64 hk; omega⟩ ⟨n, by omega⟩ hn hc h
/-- what is asked of a company by a table of who may -/
def isLeast (n : Nat) (f : Nat → Bool) (c : Nat) : Bool := f c && (members n c).all fun i => !f (c - 2 ^ i)
def isForb (n : Nat) (f : Nat → Bool) (c : Nat) : Bool := !f c && (List.range n).all fun i => bit c i || f (c + 2 ^ i)
theorem isLeast_of {n : Nat} {f : Nat → Bool} {c : Nat} (h : f c = true) (h1 : ∀ i, i < n → bit c i = true → f (c - 2 ^ i) = false) : isLeast n f c = true := by
  unfold isLeast
  rw [h, Bool.true_and, List.all_eq_true]
  intro i hi
  obtain ⟨h2, h3⟩ := List.mem_filter.mp hi
  rw [h1 i (List.mem_range.mp h2) h3]
  rfl
theorem isLeast_not {n : Nat} {f : Nat → Bool} {c i : Nat} (hi : i < n) (hb : bit c i = true) (h : f (c - 2 ^ i) = true) : isLeast n f c = false := by
  unfold isLeast
  rw [Bool.and_eq_false_iff]
  refine .inr (List.all_eq_false.mpr ⟨i, List.mem_filter.mpr ⟨List.mem_range.mpr hi, hb⟩, ?_⟩)
  rw [h]
  decide
theorem isForb_of {n : Nat} {f : Nat → Bool} {c : Nat} (h : f c = false) (h1 : ∀ i, i < n → bit c i = false → f (c + 2 ^ i) = true) : isForb n f c = true := by
  unfold isForb
  rw [h, Bool.not_false, Bool.true_and, List.all_eq_true]
  intro i hi
  cases hb : bit c i with
  | true => rfl
  | false => rw [h1 i (List.mem_range.mp hi) hb]; rfl
theorem isForb_not {n : Nat} {f : Nat → Bool} {c i : Nat} (hi : i < n) (hb : bit c i = false) (h : f (c + 2 ^ i) = false) : isForb n f c = false := by
  unfold isForb
  rw [Bool.and_eq_false_iff]
  refine .inr (List.all_eq_false.mpr ⟨i, List.mem_range.mpr hi, ?_⟩)
  rw [hb, h]
  decide
/-- the table of who may, as a list of truths -/
def tab (n : Nat) (f : Nat → Bool) : List V := (List.range (2 ^ n)).map fun c => V.bl (f c)
theorem tab_len (n : Nat) (f : Nat → Bool) : (tab n f).length = 2 ^ n := by simp [tab]
theorem tab_at {n c : Nat} {f : Nat → Bool} (h : c < 2 ^ n) : atI (tab n f) (c : Int) = some (V.bl (f c)) := atI_nat (by simp [tab, h])
theorem tab_rng {n : Nat} {f : Nat → Bool} (h : n ≤ 6) : 0 ≤ ((tab n f).length : Int) ∧ ((tab n f).length : Int) ≤ 40000 := by
  rw [tab_len]
  exact ⟨Int.natCast_nonneg _, Int.ofNat_le.mpr (Nat.le_trans (pow64 h) (by decide))⟩
theorem two_nn (n : Nat) : 0 ≤ ((2 ^ n : Nat) : Int) := Int.natCast_nonneg _
theorem two_le {n : Nat} (h : n ≤ 6) : ((2 ^ n : Nat) : Int) ≤ 64 := Int.ofNat_le.mpr (pow64 h)
def meets (k l c : Nat) : Bool := (List.range k).any fun n => bit l n && bit c n
theorem and_pos6 : ∀ c : Fin 64, ∀ l : Fin 64, decide ((0 : Int) < Builtin.bitAnd ((c.val : Nat) : Int) ((l.val : Nat) : Int)) = meets 6 l.val c.val := by decide +kernel
theorem bit_out {l k n : Nat} (h : l < 2 ^ k) (hn : k ≤ n) : bit l n = false := by
  unfold Vbpxaf.bit
  have h1 : l < 2 ^ n := Nat.lt_of_lt_of_le h (pow_le hn)
  rw [Nat.div_eq_of_lt h1]
  rfl
theorem meets_eq {k l c : Nat} (hk : k ≤ 6) (hl : l < 2 ^ k) : meets 6 l c = meets k l c := by
  unfold meets
  rw [Bool.eq_iff_iff, List.any_eq_true, List.any_eq_true]
  constructor
  · rintro ⟨n, hn, hb⟩
    refine ⟨n, List.mem_range.mpr ?_, hb⟩
    rcases Nat.lt_or_ge n k with h | h
    · exact h
    · rw [bit_out hl h] at hb
      cases hb
  · rintro ⟨n, hn, hb⟩
    exact ⟨n, List.mem_range.mpr (Nat.lt_of_lt_of_le (List.mem_range.mp hn) hk), hb⟩
theorem and_pos {k c l : Nat} (hk : k ≤ 6) (hc : c < 2 ^ k) (hl : l < 2 ^ k) : decide ((0 : Int) < Builtin.bitAnd (c : Int) (l : Int)) = meets k l c := by
  have h := pow64 hk
  rw [← meets_eq hk hl]
  exact and_pos6 ⟨c, by omega⟩ ⟨l, by omega⟩
/-- whether so many locks open for a company -/
def opens' (k : Nat) (ls : List Nat) (c : Nat) : Bool := ls.all fun l => meets k l c
def swingsB (f : Nat → Bool) (i c : Nat) : Bool := !bit c i && (!f c && f (c + 2 ^ i))
end CK
/-! weights: the search officer by officer -/
namespace CK
open Vbpxaf (bit members weigh rows sized)
theorem weigh_nil (c : Nat) : weigh [] c = 0 := rfl
theorem weigh_snoc (w : List Nat) (x c : Nat) : weigh (w ++ [x]) c = weigh w c + (if bit c w.length = true then x else 0) := by
  unfold Vbpxaf.weigh
  rw [List.zipIdx_append, List.map_append, List.foldl_append]
  simp
/-- what officers from i on weigh at most -/
def topc (m c : Nat) : Nat → Nat → Nat
  | _, 0 => 0
  | i, k + 1 => (if bit c i = true then m else 0) + topc m c (i + 1) k
theorem topc_snoc (m c : Nat) : ∀ k i, topc m c i (k + 1) = topc m c i k + (if bit c (i + k) = true then m else 0)
  | 0, i => by simp [topc]
  | k + 1, i => by
    have h := topc_snoc m c k (i + 1)
    have e : i + 1 + k = i + (k + 1) := by omega
    rw [e] at h
    show (if bit c i = true then m else 0) + topc m c (i + 1) (k + 1) = (if bit c i = true then m else 0) + topc m c (i + 1) k + _
    rw [h]
    omega
theorem sized_succ (n c : Nat) : sized (n + 1) c = sized n c + (if bit c n = true then 1 else 0) := by
  unfold Vbpxaf.sized Vbpxaf.members
  rw [List.range_succ, List.filter_append, List.length_append]
  cases h : bit c n <;> simp [h]
theorem topc_sized (m c : Nat) : ∀ n, topc m c 0 n = m * sized n c
  | 0 => by simp [topc, Vbpxaf.sized, Vbpxaf.members]
  | n + 1 => by
    rw [topc_snoc, topc_sized m c n, sized_succ, Nat.mul_add]
    cases h : bit c (0 + n) <;> rw [Nat.zero_add] at h <;> simp [h]
/-- the most that a company weighs, where the first weights are begun and k are still to come -/
def wtop (m : Nat) (b : List Nat) (k c : Nat) : Nat := weigh b c + topc m c b.length k
theorem wtop_nil (m n c : Nat) : wtop m [] n c = m * sized n c := by
  unfold wtop
  rw [weigh_nil, Nat.zero_add]
  exact topc_sized m c n
theorem wtop_end (m : Nat) (b : List Nat) (c : Nat) : wtop m b 0 c = weigh b c := rfl
theorem wtop_step (m : Nat) (b : List Nat) (k c x : Nat) : (wtop m (b ++ [x]) k c : Int) = (wtop m b (k + 1) c : Int) + (if bit c b.length = true then (x : Int) - (m : Int) else 0) := by
  unfold wtop
  rw [weigh_snoc, List.length_append]
  show ((weigh b c + _ + topc m c (b.length + 1) k : Nat) : Int) = ((weigh b c + ((if bit c b.length = true then m else 0) + topc m c (b.length + 1) k) : Nat) : Int) + _
  cases h : bit c b.length <;> simp <;> omega
theorem weigh_more (c : Nat) : ∀ (r b : List Nat), weigh b c ≤ weigh (b ++ r) c
  | [], b => by rw [List.append_nil]; exact Nat.le_refl _
  | x :: r, b => by
    have h := weigh_more c r (b ++ [x])
    rw [List.append_assoc] at h
    rw [weigh_snoc] at h
    exact Nat.le_trans (Nat.le_add_right _ _) h
theorem weigh_top (m c : Nat) : ∀ (r b : List Nat), (∀ x ∈ r, x ≤ m) → weigh (b ++ r) c ≤ wtop m b r.length c
  | [], b, _ => by rw [List.append_nil]; exact Nat.le_refl _
  | x :: r, b, h => by
    have h1 := weigh_top m c r (b ++ [x]) fun y hy => h y (List.mem_cons_of_mem _ hy)
    rw [List.append_assoc] at h1
    have h2 := wtop_step m b r.length c x
    have hx := h x (List.mem_cons_self ..)
    refine Nat.le_trans h1 ?_
    show wtop m (b ++ [x]) r.length c ≤ wtop m b (r.length + 1) c
    split at h2 <;> omega
theorem mem_rows {m : Nat} : ∀ {k : Nat} {r : List Nat}, r ∈ rows k m → r.length = k ∧ ∀ x ∈ r, x ≤ m
  | 0, r, h => by
    have : r = [] := by simpa [Vbpxaf.rows] using h
    subst this
    exact ⟨rfl, fun x hx => by cases hx⟩
  | k + 1, r, h => by
    unfold Vbpxaf.rows at h
    obtain ⟨x, hx, hr⟩ := List.mem_flatMap.mp h
    obtain ⟨r', hr', rfl⟩ := List.mem_map.mp hr
    obtain ⟨h1, h2⟩ := mem_rows hr'
    refine ⟨by simp [h1], fun y hy => ?_⟩
    rcases List.mem_cons.mp hy with rfl | hy
    · have := List.mem_range.mp hx
      omega
    · exact h2 y hy
section
variable (ls fs : List Nat) (m : Nat)
/-- whether all least ones may still weigh more than all forbidden ones -/
def okW (b : List Nat) (k : Nat) : Bool := ls.all fun a => fs.all fun x => decide (weigh b x < wtop m b k a)
def partsL (w : List Nat) : Bool := ls.all fun a => fs.all fun x => decide (weigh w x < weigh w a)
/-- the search -/
def seekW : Nat → List Nat → Option (List Nat)
  | 0, b => if okW ls fs m b 0 = true then some b else none
  | k + 1, b => if okW ls fs m b (k + 1) = true then (List.range (m + 1)).findSome? fun x => seekW k (b ++ [x]) else none
theorem okW_of {b r : List Nat} (hr : ∀ x ∈ r, x ≤ m) (h : partsL ls fs (b ++ r) = true) : okW ls fs m b r.length = true := by
  unfold okW
  unfold partsL at h
  rw [List.all_eq_true] at h ⊢
  intro a ha
  have h1 := h a ha
  rw [List.all_eq_true] at h1 ⊢
  intro x hx
  have h2 := of_decide_eq_true (h1 x hx)
  exact decide_eq_true (Nat.lt_of_le_of_lt (weigh_more x r b) (Nat.lt_of_lt_of_le h2 (weigh_top m a r b hr)))
theorem seekW_eq : ∀ (k : Nat) (b : List Nat), seekW ls fs m k b = ((rows k m).map (b ++ ·)).find? (partsL ls fs)
  | 0, b => by
    have e : okW ls fs m b 0 = partsL ls fs b := rfl
    unfold seekW
    rw [e]
    show _ = List.find? (partsL ls fs) [b ++ []]
    rw [List.append_nil]
    by_cases h : partsL ls fs b = true
    · rw [if_pos h, List.find?_cons_of_pos h]
    · rw [if_neg h, List.find?_cons_of_neg h]
      rfl
  | k + 1, b => by
    unfold seekW
    by_cases h : okW ls fs m b (k + 1) = true
    · rw [if_pos h]
      show _ = List.find? (partsL ls fs) (((List.range (m + 1)).flatMap fun x => (rows k m).map fun r => x :: r).map (b ++ ·))
      rw [List.map_flatMap, List.find?_flatMap]
      have e : (fun x => seekW ls fs m k (b ++ [x])) = fun x => List.find? (partsL ls fs) (((rows k m).map fun r => x :: r).map (b ++ ·)) := by
        funext x
        rw [seekW_eq k (b ++ [x]), List.map_map]
        congr 1
        refine List.map_congr_left fun r _ => ?_
        show b ++ [x] ++ r = b ++ (x :: r)
        rw [List.append_assoc]
        rfl
      rw [e]
    · rw [if_neg h]
      symm
      rw [List.find?_eq_none]
      intro w hw
      obtain ⟨r, hr, rfl⟩ := List.mem_map.mp hw
      obtain ⟨h1, h2⟩ := mem_rows hr
      intro hp
      have := okW_of ls fs m h2 hp
      rw [h1] at this
      exact h this
theorem seekW_all (n : Nat) : seekW ls fs m n [] = (rows n m).find? (partsL ls fs) := by
  rw [seekW_eq]
  congr 1
  exact List.map_id'' (fun r => rfl) _
end
theorem parts_eq (f : Vbpxaf.File) (w : List Nat) : Vbpxaf.parts f w = partsL (Vbpxaf.least f) (Vbpxaf.forbidden f) w := rfl
end CK
/-! trades -/
namespace CK
open Vbpxaf (bit members often)
/-- all pairs of one and another behind it or itself -/
def pairsN : List Nat → List (Nat × Nat)
  | [] => []
  | x :: l => ((x :: l).map fun y => (x, y)) ++ pairsN l
def keyN (p : Nat × Nat) : Nat × Nat := (p.1 &&& p.2, p.1 ^^^ p.2)
theorem pairs_eq : ∀ {l : List Nat}, l.Pairwise (· < ·) → pairsN l = l.flatMap fun a => (l.filter fun b => decide (a ≤ b)).map fun b => (a, b)
  | [], _ => rfl
  | x :: l, h => by
    obtain ⟨h1, h2⟩ := List.pairwise_cons.mp h
    rw [List.flatMap_cons, pairsN, pairs_eq h2]
    congr 1
    · congr 1
      symm
      rw [List.filter_eq_self]
      intro y hy
      refine decide_eq_true ?_
      rcases List.mem_cons.mp hy with rfl | hy
      · exact Nat.le_refl _
      · exact Nat.le_of_lt (h1 y hy)
    · have : ∀ (k : List Nat), (∀ a ∈ k, x < a) → (k.flatMap fun a => (l.filter fun b => decide (a ≤ b)).map fun b => (a, b)) = k.flatMap fun a => ((x :: l).filter fun b => decide (a ≤ b)).map fun b => (a, b) := by
        intro k
        induction k with
        | nil => intro _; rfl
        | cons a k ih =>
          intro hk
          rw [List.flatMap_cons, List.flatMap_cons, ih fun b hb => hk b (List.mem_cons_of_mem _ hb)]
          congr 2
          have := hk a (List.mem_cons_self ..)
          rw [List.filter_cons_of_neg]
          simpa using this
      exact this l h1
theorem bit_test (c n : Nat) : bit c n = c.testBit n := by
  unfold Vbpxaf.bit
  rw [Nat.testBit_eq_decide_div_mod_eq]
  rfl
theorem key_iff {n a b c d : Nat} (ha : a < 2 ^ n) (hb : b < 2 ^ n) (hc : c < 2 ^ n) (hd : d < 2 ^ n) : decide (keyN (c, d) = keyN (a, b)) = (List.range n).all fun i => often a b i == often c d i := by
  rw [Bool.eq_iff_iff, decide_eq_true_iff, List.all_eq_true]
  unfold keyN Vbpxaf.often
  simp only [Prod.mk.injEq, bit_test]
  constructor
  · rintro ⟨h1, h2⟩ i _
    have e1 := congrArg (fun z => Nat.testBit z i) h1
    have e2 := congrArg (fun z => Nat.testBit z i) h2
    simp only [Nat.testBit_and, Nat.testBit_xor] at e1 e2
    revert e1 e2
    cases a.testBit i <;> cases b.testBit i <;> cases c.testBit i <;> cases d.testBit i <;> decide
  · intro h
    have hi : ∀ i, (c.testBit i && d.testBit i) = (a.testBit i && b.testBit i) ∧ (c.testBit i ^^ d.testBit i) = (a.testBit i ^^ b.testBit i) := fun i => by
      rcases Nat.lt_or_ge i n with hn | hn
      · have e := h i (List.mem_range.mpr hn)
        revert e
        cases a.testBit i <;> cases b.testBit i <;> cases c.testBit i <;> cases d.testBit i <;> decide
      · have lt : ∀ {x}, x < 2 ^ n → x.testBit i = false := fun {x} hx => Nat.testBit_lt_two_pow (Nat.lt_of_lt_of_le hx (Nat.pow_le_pow_right (by omega) hn))
        rw [lt ha, lt hb, lt hc, lt hd]
        exact ⟨rfl, rfl⟩
    refine ⟨Nat.eq_of_testBit_eq fun i => ?_, Nat.eq_of_testBit_eq fun i => ?_⟩
    · rw [Nat.testBit_and, Nat.testBit_and]
      exact (hi i).1
    · rw [Nat.testBit_xor, Nat.testBit_xor]
      exact (hi i).2
def quad (p q : Nat × Nat) : List Nat := [p.1, p.2, q.1, q.2]
def tradeL (good bad : List Nat) : Option (List Nat) := (pairsN good).findSome? fun p => ((pairsN bad).find? fun q => decide (keyN q = keyN p)).map fun q => quad p q
theorem findSome_congr {α β : Type} {f g : α → Option β} : ∀ {l : List α}, (∀ a ∈ l, f a = g a) → l.findSome? f = l.findSome? g
  | [], _ => rfl
  | a :: l, h => by
    rw [List.findSome?_cons, List.findSome?_cons, h a (List.mem_cons_self ..), findSome_congr fun b hb => h b (List.mem_cons_of_mem _ hb)]
theorem find_congr {α : Type} {f g : α → Bool} : ∀ {l : List α}, (∀ a ∈ l, f a = g a) → l.find? f = l.find? g
  | [], _ => rfl
  | a :: l, h => by
    rw [List.find?_cons, List.find?_cons, h a (List.mem_cons_self ..), find_congr fun b hb => h b (List.mem_cons_of_mem _ hb)]
theorem findSome_flatMap {α β γ : Type} (h : β → Option γ) (g : α → List β) : ∀ l : List α, (l.flatMap g).findSome? h = l.findSome? fun a => (g a).findSome? h
  | [] => rfl
  | a :: l => by
    rw [List.flatMap_cons, List.findSome?_append, List.findSome?_cons, findSome_flatMap h g l]
    cases (g a).findSome? h <;> rfl
theorem map_findSome {α β γ : Type} (h : α → Option β) (g : β → γ) : ∀ l : List α, (l.findSome? h).map g = l.findSome? fun a => (h a).map g
  | [] => rfl
  | a :: l => by
    rw [List.findSome?_cons, List.findSome?_cons, ← map_findSome h g l]
    cases h a <;> rfl
theorem pairs_findSome {γ : Type} {l : List Nat} (hl : l.Pairwise (· < ·)) (h : Nat × Nat → Option γ) : (pairsN l).findSome? h = l.findSome? fun a => (l.filter fun b => decide (a ≤ b)).findSome? fun b => h (a, b) := by
  rw [pairs_eq hl, findSome_flatMap]
  refine findSome_congr fun a _ => ?_
  rw [List.findSome?_map]
  rfl
theorem find_if {α : Type} (p : α → Bool) : ∀ l : List α, l.find? p = l.findSome? fun a => if p a = true then some a else none
  | [] => rfl
  | a :: l => by
    rw [List.find?_cons, List.findSome?_cons, find_if p l]
    cases p a <;> rfl
theorem findSome_filter {α β : Type} (p : α → Bool) (h : α → Option β) : ∀ l : List α, (l.filter p).findSome? h = l.findSome? fun a => if p a = true then h a else none
  | [] => rfl
  | a :: l => by
    rw [List.filter_cons, List.findSome?_cons]
    cases hp : p a with
    | true => rw [if_pos rfl, if_pos rfl, List.findSome?_cons, findSome_filter p h l]
    | false =>
      rw [if_neg (by simp), if_neg (by simp), findSome_filter p h l]
theorem range_sorted (n : Nat) : (List.range n).Pairwise (· < ·) := List.pairwise_lt_range
theorem trade_eq (f : Vbpxaf.File) : Vbpxaf.trade f = tradeL ((Vbpxaf.companies f).filter (Vbpxaf.may f)) ((Vbpxaf.companies f).filter fun c => !Vbpxaf.may f c) := by
  have lt : ∀ {p : Nat → Bool} {c : Nat}, c ∈ (Vbpxaf.companies f).filter p → c < 2 ^ Vbpxaf.count f := fun h => List.mem_range.mp (List.mem_filter.mp h).1
  have srt : ∀ p : Nat → Bool, ((Vbpxaf.companies f).filter p).Pairwise (· < ·) := fun p => (range_sorted _).filter p
  unfold Vbpxaf.trade tradeL
  rw [pairs_findSome (srt _)]
  refine findSome_congr fun a ha => findSome_congr fun b hb => ?_
  have hb' := (List.mem_filter.mp hb).1
  rw [find_if, pairs_findSome (srt _), map_findSome]
  refine findSome_congr fun c hc => ?_
  rw [find_if, map_findSome, map_findSome, findSome_filter fun b => decide (c ≤ b)]
  refine findSome_congr fun d hd => ?_
  rw [key_iff (lt ha) (lt hb') (lt hc) (lt hd)]
  cases h1 : decide (c ≤ d) <;> cases h2 : (List.range (Vbpxaf.count f)).all fun i => often a b i == often c d i <;> simp [quad, h1]
end CK
/-! sums of weights, orders, exchanges, openings -/
namespace CK
open Vbpxaf (bit members weigh sized fact)
theorem snoc_ind {α : Type} {p : List α → Prop} (h0 : p []) (h1 : ∀ l a, p l → p (l ++ [a])) (l : List α) : p l := by
  rw [← List.reverse_reverse l]
  induction l.reverse with
  | nil => exact h0
  | cons a r ih =>
    rw [List.reverse_cons]
    exact h1 _ _ ih
theorem sum_snoc (l : List Int) (x : Int) : (l ++ [x]).sum = l.sum + x := by simp
theorem nsum_snoc (l : List Nat) (x : Nat) : (l ++ [x]).sum = l.sum + x := by simp
/-- what a company weighs, as a sum over the officers in it -/
theorem weigh_sum (c : Nat) (w : List Nat) : (((List.range w.length).filter (bit c)).map fun i => ((w.getD i 0 : Nat) : Int)).sum = ((weigh w c : Nat) : Int) := by
  induction w using snoc_ind with
  | h0 => rfl
  | h1 w x ih =>
    rw [weigh_snoc, List.length_append, List.length_singleton, List.range_succ, List.filter_append, List.map_append]
    have e : (((List.range w.length).filter (bit c)).map fun i => (((w ++ [x]).getD i 0 : Nat) : Int)) = ((List.range w.length).filter (bit c)).map fun i => ((w.getD i 0 : Nat) : Int) := by
      refine List.map_congr_left fun i hi => ?_
      have hi2 := List.mem_range.mp (List.mem_filter.mp hi).1
      have : (w ++ [x]).getD i 0 = w.getD i 0 := by
        rw [List.getD_eq_getElem?_getD, List.getD_eq_getElem?_getD, List.getElem?_append_left hi2]
      rw [this]
    rw [e, List.sum_append, ih]
    cases h : bit c w.length with
    | false => simp [h]
    | true => simp [h]
theorem bit_all : ∀ n : Fin 7, ∀ i : Fin 6, i.val < n.val → bit (2 ^ n.val - 1) i.val = true := by decide +kernel
theorem bit_all' {n i : Nat} (hn : n ≤ 6) (hi : i < n) : bit (2 ^ n - 1) i = true := bit_all ⟨n, by omega⟩ ⟨i, by omega⟩ hi
theorem weigh_full (c : Nat) (w : List Nat) (h : ∀ i, i < w.length → bit c i = true) : weigh w c = w.sum := by
  induction w using snoc_ind with
  | h0 => rfl
  | h1 w x ih =>
    rw [weigh_snoc, nsum_snoc, ih fun i hi => h i (by simp; omega), if_pos (h w.length (by simp))]
theorem weigh_all {n : Nat} {w : List Nat} (hn : n ≤ 6) (hw : w.length = n) : weigh w (2 ^ n - 1) = w.sum := weigh_full _ _ fun i hi => bit_all' hn (by omega)
theorem weigh_le {B : Nat} (c : Nat) (w : List Nat) (h : ∀ x ∈ w, x ≤ B) : weigh w c ≤ B * w.length := by
  induction w using snoc_ind with
  | h0 => simp [weigh_nil]
  | h1 w x ih =>
    rw [weigh_snoc, List.length_append, Nat.mul_add]
    have h1 := ih fun y hy => h y (List.mem_append_left _ hy)
    have h2 := h x (by simp)
    split <;> simp <;> omega
/-- the least of some numbers -/
theorem foldl_min_le : ∀ (l : List Nat) (a : Nat), l.foldl min a ≤ a ∧ ∀ x ∈ l, l.foldl min a ≤ x
  | [], a => ⟨Nat.le_refl _, fun x hx => by cases hx⟩
  | y :: l, a => by
    obtain ⟨h1, h2⟩ := foldl_min_le l (min a y)
    refine ⟨Nat.le_trans h1 (Nat.min_le_left _ _), fun x hx => ?_⟩
    rcases List.mem_cons.mp hx with rfl | hx
    · exact Nat.le_trans h1 (Nat.min_le_right _ _)
    · exact h2 x hx
theorem foldl_min_mem : ∀ (l : List Nat) (a : Nat), l.foldl min a ∈ a :: l
  | [], a => List.mem_cons_self ..
  | y :: l, a => by
    have h := foldl_min_mem l (min a y)
    show l.foldl min (min a y) ∈ a :: y :: l
    rcases List.mem_cons.mp h with e | h
    · rw [e]
      rcases Nat.le_total a y with q | q
      · rw [Nat.min_eq_left q]
        exact List.mem_cons_self ..
      · rw [Nat.min_eq_right q]
        exact List.mem_cons_of_mem _ (List.mem_cons_self ..)
    · exact List.mem_cons_of_mem _ (List.mem_cons_of_mem _ h)
theorem min_is {l : List Nat} {a m : Nat} (h1 : m ∈ a :: l) (h2 : ∀ x ∈ a :: l, m ≤ x) : m = l.foldl min a := by
  refine Nat.le_antisymm (h2 _ (foldl_min_mem l a)) ?_
  obtain ⟨h3, h4⟩ := foldl_min_le l a
  rcases List.mem_cons.mp h1 with rfl | h1
  · exact h3
  · exact h4 _ h1
/-! ### orders -/
def swungTo (n : Nat) (f : Nat → Bool) (i k : Nat) : Nat := (((List.range k).filter (swingsB f i)).map fun c => fact (sized n c) * fact (n - 1 - sized n c)).foldl (fun a b => a + b) 0
theorem swung_succ (n : Nat) (f : Nat → Bool) (i k : Nat) : swungTo n f i (k + 1) = swungTo n f i k + (if swingsB f i k = true then fact (sized n k) * fact (n - 1 - sized n k) else 0) := by
  unfold swungTo
  rw [List.range_succ, List.filter_append, List.map_append, List.foldl_append]
  cases h : swingsB f i k <;> simp [h]
theorem fact_at : ∀ i : Fin 7, fact i.val = [1, 1, 2, 6, 24, 120, 720].getD i.val 0 := by decide +kernel
theorem fact_le : ∀ i : Fin 7, 1 ≤ fact i.val ∧ fact i.val ≤ 720 := by decide +kernel
theorem fact_le' {i : Nat} (h : i ≤ 6) : 1 ≤ fact i ∧ fact i ≤ 720 := fact_le ⟨i, by omega⟩
theorem sized_le : ∀ (n c : Nat), sized n c ≤ n
  | 0, c => by simp [Vbpxaf.sized, Vbpxaf.members]
  | n + 1, c => by
    have := sized_le n c
    rw [sized_succ]
    split <;> omega
theorem sized_lt : ∀ {n c i : Nat}, i < n → bit c i = false → sized n c + 1 ≤ n
  | n + 1, c, i, h, hb => by
    rw [sized_succ]
    rcases Nat.lt_succ_iff_lt_or_eq.mp h with h1 | rfl
    · have := sized_lt h1 hb
      split <;> omega
    · have := sized_le i c
      rw [if_neg (by rw [hb]; simp)]
      omega
theorem swung_le {n : Nat} (hn : n ≤ 6) (f : Nat → Bool) (i : Nat) : ∀ k, swungTo n f i k ≤ 518400 * k
  | 0 => Nat.le_refl _
  | k + 1 => by
    have h := swung_le hn f i k
    rw [swung_succ]
    have h1 := (fact_le' (i := sized n k) (Nat.le_trans (sized_le n k) hn)).2
    have h2 := (fact_le' (i := n - 1 - sized n k) (by omega)).2
    have h3 : fact (sized n k) * fact (n - 1 - sized n k) ≤ 720 * 720 := Nat.mul_le_mul h1 h2
    split <;> omega
theorem swings_swung (f : Vbpxaf.File) (i : Nat) : (((Vbpxaf.swings f i).map fun c => fact (sized (Vbpxaf.count f) c) * fact (Vbpxaf.count f - 1 - sized (Vbpxaf.count f) c)).foldl (fun a b => a + b) 0) = swungTo (Vbpxaf.count f) (Vbpxaf.may f) i (2 ^ Vbpxaf.count f) := rfl
theorem power_is {f : Vbpxaf.File} (hn : Vbpxaf.count f ≤ 6) (i : Nat) : (Vbpxaf.power f i).num = ((swungTo (Vbpxaf.count f) (Vbpxaf.may f) i (2 ^ Vbpxaf.count f) / Nat.gcd (swungTo (Vbpxaf.count f) (Vbpxaf.may f) i (2 ^ Vbpxaf.count f)) (fact (Vbpxaf.count f)) : Nat) : Int) ∧
    (Vbpxaf.power f i).den = fact (Vbpxaf.count f) / Nat.gcd (swungTo (Vbpxaf.count f) (Vbpxaf.may f) i (2 ^ Vbpxaf.count f)) (fact (Vbpxaf.count f)) := by
  unfold Vbpxaf.power
  rw [swings_swung]
  unfold VbpxCore.frac
  have h0 := (fact_le' hn).1
  rw [if_neg (by omega)]
  dsimp only
  rw [Int.natAbs_natCast]
  exact ⟨by rw [Int.natCast_ediv], rfl⟩
theorem gcd_turn {a b : Nat} : Nat.gcd (b % a) a = Nat.gcd a b := (Nat.gcd_rec a b).symm
/-! ### exchanges -/
def exN (c a b : Nat) : Nat := if bit c a = bit c b then c else c ^^^ 2 ^ a ^^^ 2 ^ b
theorem ex_eq : ∀ c : Fin 64, ∀ a : Fin 6, ∀ b : Fin 6, exN c.val a.val b.val = Vbpxaf.exchanged c.val a.val b.val := by decide +kernel
theorem ex_lt : ∀ n : Fin 7, ∀ a : Fin 6, ∀ b : Fin 6, a.val < n.val → b.val < n.val → ∀ c : Fin 64, c.val < 2 ^ n.val → exN c.val a.val b.val < 2 ^ n.val := by decide +kernel
theorem ex_eq' {c a b : Nat} (hc : c < 64) (ha : a < 6) (hb : b < 6) : exN c a b = Vbpxaf.exchanged c a b := ex_eq ⟨c, hc⟩ ⟨a, ha⟩ ⟨b, hb⟩
theorem ex_lt' {n c a b : Nat} (hn : n ≤ 6) (ha : a < n) (hb : b < n) (hc : c < 2 ^ n) : exN c a b < 2 ^ n := ex_lt ⟨n, by omega⟩ ⟨a, by omega⟩ ⟨b, by omega⟩ ha hb ⟨c, by have := pow64 hn; omega⟩ hc
/-! ### companies apart -/
def apart6 (c x : Nat) : Bool := (members 6 c).all fun n => !bit x n
theorem apart_and : ∀ c : Fin 64, ∀ x : Fin 64, decide (c.val &&& x.val = 0) = apart6 c.val x.val := by decide +kernel
theorem members_eq {k c : Nat} (hk : k ≤ 6) (hc : c < 2 ^ k) : members 6 c = members k c := by
  unfold Vbpxaf.members
  have e : 6 = k + (6 - k) := by omega
  rw [e, List.range_add, List.filter_append]
  have : (List.map (fun x => k + x) (List.range (6 - k))).filter (bit c) = [] := by
    rw [List.filter_eq_nil_iff]
    intro a ha
    obtain ⟨i, _, rfl⟩ := List.mem_map.mp ha
    rw [bit_out hc (by omega)]
    decide
  rw [this, List.append_nil]
theorem apart_eq {k c x : Nat} (hk : k ≤ 6) (hc : c < 2 ^ k) (hx : x < 2 ^ k) : decide (c &&& x = 0) = (members k c).all fun n => !bit x n := by
  have := pow64 hk
  rw [apart_and ⟨c, by omega⟩ ⟨x, by omega⟩]
  unfold apart6
  rw [members_eq hk hc]
/-! ### openings -/
def opensAt (es : List Vbpxaf.Event) : List Nat := (List.range es.length).filter fun k => es[k]? == some .open_
theorem opens_snoc (es : List Vbpxaf.Event) (e : Vbpxaf.Event) : opensAt (es ++ [e]) = opensAt es ++ (if e = .open_ then [es.length] else []) := by
  unfold opensAt
  rw [List.length_append, List.length_singleton, List.range_succ, List.filter_append]
  congr 1
  · refine List.filter_congr fun i hi => ?_
    rw [List.getElem?_append_left (List.mem_range.mp hi)]
  · rw [List.filter_cons]
    have : (es ++ [e])[es.length]? = some e := by simp
    rw [this]
    by_cases h : e = .open_
    · subst h
      rw [if_pos rfl, if_pos (by decide)]
      rfl
    · rw [if_neg h, if_neg (by simpa using h)]
      rfl
theorem done_opened (n : Vbpxaf.Now) (e : Vbpxaf.Event) : (Vbpxaf.done n e).opened = n.opened + (if e = .open_ then 1 else 0) := by
  cases e <;> simp [Vbpxaf.done]
theorem opened_len (es : List Vbpxaf.Event) : (es.foldl Vbpxaf.done Vbpxaf.begin_).opened = (opensAt es).length := by
  induction es using snoc_ind with
  | h0 => rfl
  | h1 es e ih =>
    rw [List.foldl_append, opens_snoc, List.length_append, ← ih]
    show (Vbpxaf.done _ e).opened = _
    rw [done_opened]
    split <;> rfl
end CK
/-! companies.py -/
namespace CK
open PySem PySem.Spec PyProof.Rows L2 Evl
open Vbpxaf (bit members)
section
variable {P : Program} {w : World} {K : PySem.W.Frag} {mg : Str → Option Value} {base : Heap}
theorem powers_at : ∀ {n : Nat}, n < 7 → atI (t_POWERS.map (He.Dv.v K)) (n : Int) = some (.int ((2 ^ n : Nat) : Int))
  | 0, _ => rfl | 1, _ => rfl | 2, _ => rfl | 3, _ => rfl | 4, _ => rfl | 5, _ => rfl | 6, _ => rfl
  | n + 7, h => absurd h (by omega)
def sp_alone : Sp := fun vs H Q _ => ∃ n : Nat, vs = [.int n] ∧ n < 7 ∧ RetV (.int ((2 ^ n : Nat) : Int)) H Q
theorem ok_alone (S : Top K mg) : Has P w K mg base CX0 "alone" 1 P_alone sp_alone := by
  refine has_of (g_alone S) (fn_alone S) sc_alone bi_alone (fun vs H Q E h => ?_) (fun cdv A outer s H vs Q E hr h => ?_)
  · obtain ⟨n, rfl, _⟩ := h
    rfl
  · obtain ⟨n, rfl, hn, k⟩ := h
    refine ⟨_, (pss_one (ps_ret (pe_ix (ixT K) (pe_gr (g_POWERS S) rfl) (pv 0) (fun _ _ => rfl)))), ?_⟩
    exact s_ret (ev_op ev_c (ev_var rfl) (rv_ixT (tu_POWERS S H) (powers_at hn))) k
def sp_has : Sp := fun vs H Q _ => ∃ c n : Nat, vs = [.int c, .int n] ∧ c < 64 ∧ n < 6 ∧ RetV (.bl (bit c n)) H Q
theorem ok_has (S : Top K mg) : Has P w K mg base CX0 "has" 1 P_has sp_has := by
  refine has_of (g_has S) (fn_has S) sc_has bi_has (fun vs H Q E h => ?_) (fun cdv A outer s H vs Q E hr h => ?_)
  · obtain ⟨c, n, rfl, _⟩ := h
    rfl
  · obtain ⟨c, n, rfl, hc, hn, k⟩ := h
    refine ⟨_, (pss_one (ps_ret (pe_cmpR op_gt (pe_op op_and (pv 0) (pe_ix (ixT K) (pe_gr (g_POWERS S) rfl) (pv 1) (fun _ _ => rfl))) pe_int (nomark _)))), ?_⟩
    rw [← bit_and' hc (by omega : n < 7)] at k
    exact s_ret (ev_op (ev_op (ev_var rfl) (ev_op ev_c (ev_var rfl) (rv_ixT (tu_POWERS S H) (powers_at (by omega)))) rv_I0) ev_c rv_I0) k
def sp_all_companies : Sp := fun vs H Q _ => ∃ n : Nat, vs = [.int n] ∧ n < 7 ∧ RetL ((List.range (2 ^ n)).map fun (c : Nat) => V.int (c : Int)) H Q
theorem rgV_nat (m : Nat) : rgV 0 (m : Int) = (List.range m).map fun (c : Nat) => V.int (c : Int) := by
  unfold rgV
  rw [Int.sub_zero, Int.toNat_natCast]
  refine List.map_congr_left fun c _ => ?_
  rw [Int.zero_add]
theorem ok_all_companies (S : Top K mg) : Has P w K mg base CX0 "all_companies" 1 P_all_companies sp_all_companies := by
  refine has_of (g_all_companies S) (fn_all_companies S) sc_all_companies bi_all_companies (fun vs H Q E h => ?_) (fun cdv A outer s H vs Q E hr h => ?_)
  · obtain ⟨n, rfl, _⟩ := h
    rfl
  · obtain ⟨n, rfl, hn, k⟩ := h
    refine ⟨_, (pss_one (ps_ret (pe_listRg rfl (by rfl) (n_list S) (prg_1 (by rfl) (n_range S) (pe_ix (ixT K) (pe_gr (g_POWERS S) rfl) (pv 0) (fun _ _ => rfl)))))), ?_⟩
    have hp := pow64 (n := n) (by omega)
    have hv : Ev (tOp (rIxT K) (tC (.ref (He.ga K "POWERS"))) (tVar 0)) (L2.start N_all_companies [.int n]) H (.int ((2 ^ n : Nat) : Int)) := ev_op ev_c (ev_var rfl) (rv_ixT (tu_POWERS S H) (powers_at hn))
    refine hv H (Ex.refl H) _ fun H1 e1 => ?_
    refine ⟨_, rfl, RgOk.of_le (by omega) (Int.le_trans (two_le (by omega)) (by decide)) (by omega) (two_nn n), fun q hq => ?_⟩
    rw [rgV_nat]
    exact k q _ (fresh_back e1 hq) (e1.trans (Ex.new hq)) upd_same
/-- a table of who may stands at a, for n officers -/
def Tab (K : PySem.W.Frag) (H : Hp) (a : Addr) (n : Nat) (f : Nat → Bool) : Prop := n ≤ 6 ∧ SqL K H a (tab n f)
theorem Tab.ex {H H' : Hp} {a : Addr} {n : Nat} {f : Nat → Bool} (h : Tab K H a n f) (e : Ex H H') : Tab K H' a n f := ⟨h.1, ex_l e h.2⟩
theorem ev_may {σ : L2.St} {H : Hp} {a : Addr} {n c : Nat} {f : Nat → Bool} {ta tb : TE} (h : Tab K H a n f) (hc : c < 2 ^ n) (h1 : Ev ta σ H (.ref a)) (h2 : Ev tb σ H (.int (c : Int))) : Ev (tOp (rIxL K) ta tb) σ H (.bl (f c)) :=
  ev_op h1 h2 (rv_ixL h.2 (tab_at hc))
theorem ev_has {σ : L2.St} {H : Hp} {E : XK} {c n : Nat} {ta tb : TE} (h1 : Ev ta σ H (.int (c : Int))) (h2 : Ev tb σ H (.int (n : Int))) (hc : c < 64) (hn : n < 6) : Ev (tCall sp_has [] E (tCons ta (tCons tb tNil))) σ H (.bl (bit c n)) :=
  ev_h (ea_cons h1 (ea_cons h2 ea_nil)) fun H1 _ Q E k => ⟨c, n, rfl, hc, hn, k⟩
theorem ev_alone {σ : L2.St} {H : Hp} {E : XK} {n : Nat} {ta : TE} (h1 : Ev ta σ H (.int (n : Int))) (hn : n < 7) : Ev (tCall sp_alone [] E (tCons ta tNil)) σ H (.int ((2 ^ n : Nat) : Int)) :=
  ev_h (ea_cons h1 ea_nil) fun H1 _ Q E k => ⟨n, rfl, hn, k⟩
theorem sub_nat {a b : Nat} (h : b ≤ a) : (a : Int) - (b : Int) = ((a - b : Nat) : Int) := by omega
def sp_is_least (K : PySem.W.Frag) : Sp := fun vs H Q _ => ∃ (a : Addr) (n c : Nat) (f : Nat → Bool), vs = [.ref a, .int n, .int c] ∧ Tab K H a n f ∧ c < 2 ^ n ∧ RetV (.bl (isLeast n f c)) H Q
theorem ok_is_least (S : Top K mg) : Has P w K mg base CX0 "is_least" 2 P_is_least (sp_is_least K) := by
  refine has_of (g_is_least S) (fn_is_least S) sc_is_least bi_is_least (fun vs H Q E h => ?_) (fun cdv A outer s H vs Q E hr h => ?_)
  · obtain ⟨a, n, c, f, rfl, _⟩ := h
    rfl
  · obtain ⟨a, n, c, f, rfl, hT, hc, k⟩ := h
    refine ⟨_, (pss_cons (ps_if (pt_not (pt_val (pe_ix (ixL K) (pv 0) (pv 2) (fun _ _ => rfl))))
      (pss_one (ps_ret pe_bl)) pss_nil)
      (pss_cons (ps_for PassesOwn.never rfl (pi_range1 (by rfl) (n_range S) (pa_cons (pv 1) pa_nil)) (pg_name (i := 3) sc_is_least.nd rfl (Or.inl rfl))
      (pss_one (ps_if (PW.pt (pw_and (pt_val (pe_h (ok_has S) (hr.mono (by omega)) rfl (pa_cons (pv 2) (pa_cons (pv 3) pa_nil)))) (pw_and1 (pt_val (pe_ix (ixL K) (pv 0) (pe_op op_sub (pv 2) (pe_h (ok_alone S) (hr.mono (by omega)) rfl (pa_cons (pv 3) pa_nil))) (fun _ _ => rfl))))))
      (pss_one (ps_ret pe_bl)) pss_nil)))
      (pss_one (ps_ret pe_bl)))), ?_⟩
    have h64 : c < 64 := by have := pow64 hT.1; omega
    refine q_when (b := !f c) (et_not (et_B (ev_may hT hc (ev_var rfl) (ev_var rfl)))) (fun hb H1 e1 => ?_) fun hb H1 e1 => ?_
    · have hf : f c = false := by simpa using hb
      have e : isLeast n f c = false := by unfold isLeast; rw [hf]; rfl
      rw [e] at k
      exact s_ret ev_c fun H2 e2 => k H2 (e1.trans e2)
    · have hf : f c = true := by simpa using hb
      refine q_forR1 (n := (n : Int)) (ea_cons (ev_var rfl) ea_nil) (by have := hT.1; omega)
        (fun i σ' H' => ∃ v, σ' = [some (.ref a), some (.int n), some (.int c), v] ∧ Ex H H' ∧ ∀ j, j < i → bit c j = true → f (c - 2 ^ j) = false)
        (fun H2 e2 => ⟨none, rfl, e1.trans e2, fun j hj => absurd hj (by omega)⟩) ?_ ?_
      · rintro i σ' H' hi ⟨v, rfl, e2, hj⟩
        have hT2 := hT.ex e2
        have hn := hT.1
        have hin : i < n := by omega
        have step : ∀ (b : Bool), (bit c i && b) = false → (bit c i = true → f (c - 2 ^ i) = b) → ∀ j, j < i + 1 → bit c j = true → f (c - 2 ^ j) = false := fun b h1 h2 j h3 h4 => by
          rcases Nat.lt_succ_iff_lt_or_eq.mp h3 with h5 | rfl
          · exact hj j h5 h4
          · rw [h2 h4]
            rw [h4] at h1
            exact h1
        refine s_when (b := bit c i && f (c - 2 ^ i)) (et_and (et_B (ev_has (ev_var rfl) (ev_var rfl) h64 (by omega))) fun hb => et_B (ev_may (c := c - 2 ^ i) hT2 (Nat.lt_of_le_of_lt (Nat.sub_le _ _) hc) (ev_var rfl) ?_)) (fun hb H3 e3 => ?_) fun hb H3 e3 => ?_
        · exact ev_is (ev_op (ev_var rfl) (ev_alone (ev_var rfl) (by omega)) rv_I0) (by rw [sub_nat (bit_ge hb)])
        · obtain ⟨h1, h2⟩ := Bool.and_eq_true_iff.mp hb
          rw [isLeast_not hin h1 h2] at k
          exact s_ret ev_c fun H4 e4 => k H4 ((e2.trans e3).trans e4)
        · exact ⟨_, rfl, e2.trans e3, step _ hb fun _ => rfl⟩
      · rintro σ' H' ⟨v, rfl, e2, hj⟩
        rw [isLeast_of hf fun i hi hb => hj i (by omega) hb] at k
        exact s_ret ev_c fun H3 e3 => k H3 (e2.trans e3)
def sp_is_forb (K : PySem.W.Frag) : Sp := fun vs H Q _ => ∃ (a : Addr) (n c : Nat) (f : Nat → Bool), vs = [.ref a, .int n, .int c] ∧ Tab K H a n f ∧ c < 2 ^ n ∧ RetV (.bl (isForb n f c)) H Q
theorem ok_is_greatest_forbidden (S : Top K mg) : Has P w K mg base CX0 "is_greatest_forbidden" 2 P_is_greatest_forbidden (sp_is_forb K) := by
  refine has_of (g_is_greatest_forbidden S) (fn_is_greatest_forbidden S) sc_is_greatest_forbidden bi_is_greatest_forbidden (fun vs H Q E h => ?_) (fun cdv A outer s H vs Q E hr h => ?_)
  · obtain ⟨a, n, c, f, rfl, _⟩ := h
    rfl
  · obtain ⟨a, n, c, f, rfl, hT, hc, k⟩ := h
    refine ⟨_, (pss_cons (ps_if (pt_val (pe_ix (ixL K) (pv 0) (pv 2) (fun _ _ => rfl)))
      (pss_one (ps_ret pe_bl)) pss_nil)
      (pss_cons (ps_for PassesOwn.never rfl (pi_range1 (by rfl) (n_range S) (pa_cons (pv 1) pa_nil)) (pg_name (i := 3) sc_is_greatest_forbidden.nd rfl (Or.inl rfl))
      (pss_one (ps_if (PW.pt (pw_and (pt_not (pt_val (pe_h (ok_has S) (hr.mono (by omega)) rfl (pa_cons (pv 2) (pa_cons (pv 3) pa_nil))))) (pw_and1 (pt_not (pt_val (pe_ix (ixL K) (pv 0) (pe_op op_add (pv 2) (pe_h (ok_alone S) (hr.mono (by omega)) rfl (pa_cons (pv 3) pa_nil))) (fun _ _ => rfl)))))))
      (pss_one (ps_ret pe_bl)) pss_nil)))
      (pss_one (ps_ret pe_bl)))), ?_⟩
    have h64 : c < 64 := by have := pow64 hT.1; omega
    refine q_when (b := f c) (et_B (ev_may hT hc (ev_var rfl) (ev_var rfl))) (fun hf H1 e1 => ?_) fun hf H1 e1 => ?_
    · have e : isForb n f c = false := by unfold isForb; rw [hf]; rfl
      rw [e] at k
      exact s_ret ev_c fun H2 e2 => k H2 (e1.trans e2)
    · refine q_forR1 (n := (n : Int)) (ea_cons (ev_var rfl) ea_nil) (by have := hT.1; omega)
        (fun i σ' H' => ∃ v, σ' = [some (.ref a), some (.int n), some (.int c), v] ∧ Ex H H' ∧ ∀ j, j < i → bit c j = false → f (c + 2 ^ j) = true)
        (fun H2 e2 => ⟨none, rfl, e1.trans e2, fun j hj => absurd hj (by omega)⟩) ?_ ?_
      · rintro i σ' H' hi ⟨v, rfl, e2, hj⟩
        have hT2 := hT.ex e2
        have hn := hT.1
        have hin : i < n := by omega
        refine s_when (b := !bit c i && !f (c + 2 ^ i)) (et_and (et_not (et_B (ev_has (ev_var rfl) (ev_var rfl) h64 (by omega)))) fun hb => et_not (et_B (ev_may (c := c + 2 ^ i) hT2 (bit_add' hn hin hc (by simpa using hb)) (ev_var rfl) ?_))) (fun hb H3 e3 => ?_) fun hb H3 e3 => ?_
        · exact ev_is (ev_op (ev_var rfl) (ev_alone (ev_var rfl) (by omega)) rv_I0) (by rw [Int.natCast_add])
        · obtain ⟨h1, h2⟩ := Bool.and_eq_true_iff.mp hb
          rw [isForb_not hin (by simpa using h1) (by simpa using h2)] at k
          exact s_ret ev_c fun H4 e4 => k H4 ((e2.trans e3).trans e4)
        · refine ⟨_, rfl, e2.trans e3, fun j h3 h4 => ?_⟩
          rcases Nat.lt_succ_iff_lt_or_eq.mp h3 with h5 | rfl
          · exact hj j h5 h4
          · rw [h4] at hb
            simpa using hb
      · rintro σ' H' ⟨v, rfl, e2, hj⟩
        rw [isForb_of hf fun i hi hb => hj i (by omega) hb] at k
        exact s_ret ev_c fun H3 e3 => k H3 (e2.trans e3)
/-- companies as values -/
def nats (l : List Nat) : List V := l.map fun (c : Nat) => V.int (c : Int)
theorem given_nats (n : Nat) (f : Nat → Bool) : given n f (fun (i : Nat) => V.int (i : Int)) = nats ((List.range n).filter f) := rfl
def leastL (n : Nat) (f : Nat → Bool) : List Nat := (List.range (2 ^ n)).filter (isLeast n f)
def forbL (n : Nat) (f : Nat → Bool) : List Nat := (List.range (2 ^ n)).filter (isForb n f)
def sp_least (K : PySem.W.Frag) : Sp := fun vs H Q _ => ∃ (a : Addr) (n : Nat) (f : Nat → Bool), vs = [.ref a, .int n] ∧ Tab K H a n f ∧ RetL (nats (leastL n f)) H Q
theorem ok_least_companies (S : Top K mg) : Has P w K mg base CX0 "least_companies" 3 P_least_companies (sp_least K) := by
  refine has_of (g_least_companies S) (fn_least_companies S) sc_least_companies bi_least_companies (fun vs H Q E h => ?_) (fun cdv A outer s H vs Q E hr h => ?_)
  · obtain ⟨a, n, f, rfl, _⟩ := h
    rfl
  · obtain ⟨a, n, f, rfl, hT, k⟩ := h
    refine ⟨_, (pss_one (ps_ret (pe_lc (own := [("company", 2)]) rfl sc_least_companies.nd (pi_range1 (by rfl) (n_range S) (pa_cons (pe_callB (cLen K) (by rfl) (n_len S) PySem.boot_len (pa_cons (pv 0) pa_nil)) pa_nil)) (blkOk_by (own := [("company", 2)]) (N := N_least_companies) (sc := defScope s_least_companies) (by decide +kernel)) (fun _ _ _ _ _ => (pg_name (i := 2) sc_least_companies.nd rfl (Or.inl rfl))) (fun _ _ _ _ _ => (pts_one (pt_val (pe_h (ok_is_least S) (hr.mono (by omega)) rfl (pa_cons (pv 0) (pa_cons (pv 1) (pa_cons (pv 2) pa_nil))))))) (fun _ _ _ _ _ => (pv 2))))), ?_⟩
    have h64 := pow64 hT.1
    refine s_retL (xs := nats (leastL n f)) ?_ k
    have e : nats (leastL n f) = given ((tab n f).length : Int).toNat (isLeast n f) (fun (i : Nat) => V.int (i : Int)) := by
      rw [given_nats, Int.toNat_natCast, tab_len]
      rfl
    rw [e]
    refine el_lcR1 (n := ((tab n f).length : Int)) (isLeast n f) _ (ea_cons (ev_len (ev_var rfl) hT.2) ea_nil) (tab_rng hT.1) (fun _ => rfl) (fun i H1 e1 hi => ?_) (fun i H1 e1 hi _ => ev_var rfl)
    rw [tab_len] at hi
    exact et_B (ev_h (ea_cons (ev_var rfl) (ea_cons (ev_var rfl) (ea_cons (ev_var rfl) ea_nil))) fun H2 e2 Q E q => ⟨a, n, i, f, rfl, hT.ex (e1.trans e2), by omega, q⟩)
def sp_forb (K : PySem.W.Frag) : Sp := fun vs H Q _ => ∃ (a : Addr) (n : Nat) (f : Nat → Bool), vs = [.ref a, .int n] ∧ Tab K H a n f ∧ RetL (nats (forbL n f)) H Q
theorem ok_forbidden_companies (S : Top K mg) : Has P w K mg base CX0 "forbidden_companies" 3 P_forbidden_companies (sp_forb K) := by
  refine has_of (g_forbidden_companies S) (fn_forbidden_companies S) sc_forbidden_companies bi_forbidden_companies (fun vs H Q E h => ?_) (fun cdv A outer s H vs Q E hr h => ?_)
  · obtain ⟨a, n, f, rfl, _⟩ := h
    rfl
  · obtain ⟨a, n, f, rfl, hT, k⟩ := h
    refine ⟨_, (pss_one (ps_ret (pe_lc (own := [("company", 2)]) rfl sc_forbidden_companies.nd (pi_range1 (by rfl) (n_range S) (pa_cons (pe_callB (cLen K) (by rfl) (n_len S) PySem.boot_len (pa_cons (pv 0) pa_nil)) pa_nil)) (blkOk_by (own := [("company", 2)]) (N := N_forbidden_companies) (sc := defScope s_forbidden_companies) (by decide +kernel)) (fun _ _ _ _ _ => (pg_name (i := 2) sc_forbidden_companies.nd rfl (Or.inl rfl))) (fun _ _ _ _ _ => (pts_one (pt_val (pe_h (ok_is_greatest_forbidden S) (hr.mono (by omega)) rfl (pa_cons (pv 0) (pa_cons (pv 1) (pa_cons (pv 2) pa_nil))))))) (fun _ _ _ _ _ => (pv 2))))), ?_⟩
    have h64 := pow64 hT.1
    refine s_retL (xs := nats (forbL n f)) ?_ k
    have e : nats (forbL n f) = given ((tab n f).length : Int).toNat (isForb n f) (fun (i : Nat) => V.int (i : Int)) := by
      rw [given_nats, Int.toNat_natCast, tab_len]
      rfl
    rw [e]
    refine el_lcR1 (n := ((tab n f).length : Int)) (isForb n f) _ (ea_cons (ev_len (ev_var rfl) hT.2) ea_nil) (tab_rng hT.1) (fun _ => rfl) (fun i H1 e1 hi => ?_) (fun i H1 e1 hi _ => ev_var rfl)
    rw [tab_len] at hi
    exact et_B (ev_h (ea_cons (ev_var rfl) (ea_cons (ev_var rfl) (ea_cons (ev_var rfl) ea_nil))) fun H2 e2 Q E q => ⟨a, n, i, f, rfl, hT.ex (e1.trans e2), by omega, q⟩)
def sp_locks (K : PySem.W.Frag) : Sp := fun vs H Q _ => ∃ (a : Addr) (n : Nat) (f : Nat → Bool), vs = [.ref a, .int n] ∧ Tab K H a n f ∧ RetL (nats ((forbL n f).map fun c => 2 ^ n - 1 - c)) H Q
theorem nats_len (l : List Nat) : (nats l).length = l.length := by simp [nats]
theorem nats_at {l : List Nat} {i : Nat} {x : V} (h : (nats l)[i]? = some x) : ∃ c, l[i]? = some c ∧ x = .int (c : Int) := by
  unfold nats at h
  rw [List.getElem?_map] at h
  cases e : l[i]? with
  | none => rw [e] at h; cases h
  | some c => rw [e] at h; exact ⟨c, rfl, (Option.some.inj h).symm⟩
theorem filter_true {α : Type} (l : List α) : l.filter (fun _ => true) = l := List.filter_eq_self.mpr fun _ _ => rfl
theorem map_range_at {α β : Type} (d : α) (g : α → β) (l : List α) : (List.range l.length).map (fun i => g (l.getD i d)) = l.map g := by
  apply List.ext_getElem
  · simp
  · intro i h1 h2
    simp at h1
    simp [List.getD, h1]
/-- all turns give -/
theorem given_all {α : Type} (d : α) (g : α → V) (l : List α) : given l.length (fun _ => true) (fun i => g (l.getD i d)) = l.map g := by
  unfold given
  rw [filter_true, map_range_at]
theorem getD_of {α : Type} {l : List α} {i : Nat} {c d : α} (h : l[i]? = some c) : l.getD i d = c := by
  rw [List.getD, h]
  rfl
theorem mem_forbL {n c : Nat} {f : Nat → Bool} (h : c ∈ forbL n f) : c < 2 ^ n := List.mem_range.mp (List.mem_filter.mp h).1
theorem forbL_len (n : Nat) (f : Nat → Bool) : (forbL n f).length ≤ 2 ^ n := by
  have h := List.length_filter_le (isForb n f) (List.range (2 ^ n))
  rw [List.length_range] at h
  exact h
theorem leastL_len (n : Nat) (f : Nat → Bool) : (leastL n f).length ≤ 2 ^ n := by
  have h := List.length_filter_le (isLeast n f) (List.range (2 ^ n))
  rw [List.length_range] at h
  exact h
theorem et_yes {σ : L2.St} {H : Hp} : EvT tYes σ H true := fun H1 _ _ q => q H1 (Ex.refl H1)
theorem ok_rule_locks (S : Top K mg) : Has P w K mg base CX0 "rule_locks" 4 P_rule_locks (sp_locks K) := by
  refine has_of (g_rule_locks S) (fn_rule_locks S) sc_rule_locks bi_rule_locks (fun vs H Q E h => ?_) (fun cdv A outer s H vs Q E hr h => ?_)
  · obtain ⟨a, n, f, rfl, _⟩ := h
    rfl
  · obtain ⟨a, n, f, rfl, hT, k⟩ := h
    refine ⟨_, (pss_cons (ps_set (i := 2) sc_rule_locks.nd rfl (Or.inr rfl) (pe_op op_sub (pe_callB (cLen K) (by rfl) (n_len S) PySem.boot_len (pa_cons (pv 0) pa_nil)) pe_int))
      (pss_one (ps_ret (pe_lc (own := [("company", 3)]) rfl sc_rule_locks.nd (piL K (pe_h (ok_forbidden_companies S) (hr.mono (by omega)) rfl (pa_cons (pv 0) (pa_cons (pv 1) pa_nil)))) (blkOk_by (own := [("company", 3)]) (N := N_rule_locks) (sc := defScope s_rule_locks) (by decide +kernel)) (fun _ _ _ _ _ => (pg_name (i := 3) sc_rule_locks.nd rfl (Or.inl rfl))) (fun _ _ _ _ _ => pts_nil) (fun _ _ _ _ _ => (pe_op op_sub (pv 2) (pv 3))))))), ?_⟩
    have h64 := pow64 hT.1
    refine q_asg (ev_op (ev_len (ev_var rfl) hT.2) ev_c rv_I0) fun H1 e1 => ?_
    have hz : (nats (forbL n f)).length ≤ 40000 := by rw [nats_len]; exact Nat.le_trans (forbL_len n f) (by omega)
    have e : nats ((forbL n f).map fun c => 2 ^ n - 1 - c) = given (nats (forbL n f)).length (fun _ => true) (fun i => V.int ((2 ^ n - 1 - (forbL n f).getD i 0 : Nat) : Int)) := by
      rw [nats_len, given_all 0 (fun c => V.int ((2 ^ n - 1 - c : Nat) : Int))]
      unfold nats
      rw [List.map_map]
      rfl
    rw [e] at k
    refine s_retL (el_lcNL (fun _ => true) _ (el_h (ea_cons (ev_var rfl) (ea_cons (ev_var rfl) ea_nil)) fun H2 e2 Q E q => ⟨a, n, f, rfl, hT.ex (e1.trans e2), q⟩) hz (fun _ => rfl) (fun i x H2 e2 hi => et_yes) (fun i x H2 e2 hi _ => ?_)) fun p H2 hp e2 h2 => k p H2 (fresh_back e1 hp) (e1.trans e2) h2
    obtain ⟨c, hc, rfl⟩ := nats_at hi
    have hc2 := mem_forbL (List.mem_of_getElem? hc)
    refine ev_is (ev_op (ev_var rfl) (ev_var rfl) rv_I0) ?_
    rw [getD_of hc, tab_len]
    exact congrArg V.int (by omega)
def sp_key_count (K : PySem.W.Frag) : Sp := fun vs H Q _ => ∃ (a : Addr) (ls : List Nat) (n : Nat), vs = [.ref a, .int n] ∧ SqL K H a (nats ls) ∧ n < 6 ∧ ls.length ≤ 40000 ∧ (∀ l ∈ ls, l < 64) ∧ RetV (.int ((ls.filter fun l => bit l n).length : Nat)) H Q
/-- the turns that give, of a list -/
theorem given_filter {α : Type} (d : α) (p : α → Bool) (g : α → V) (l : List α) : given l.length (fun i => p (l.getD i d)) (fun i => g (l.getD i d)) = (l.filter p).map g := by
  unfold given
  have h : ((List.range l.length).filter fun i => p (l.getD i d)).map (fun i => l.getD i d) = l.filter p := by
    have h1 : (List.range l.length).map (fun i => l.getD i d) = l := by
      have := map_range_at d id l
      simpa using this
    conv => rhs; rw [← h1]
    rw [List.filter_map]
    rfl
  rw [← h, List.map_map]
  rfl
theorem ok_key_count (S : Top K mg) : Has P w K mg base CX0 "key_count" 2 P_key_count (sp_key_count K) := by
  refine has_of (g_key_count S) (fn_key_count S) sc_key_count bi_key_count (fun vs H Q E h => ?_) (fun cdv A outer s H vs Q E hr h => ?_)
  · obtain ⟨a, ls, n, rfl, _⟩ := h
    rfl
  · obtain ⟨a, ls, n, rfl, hL, hn, hz, h64, k⟩ := h
    refine ⟨_, (pss_one (ps_ret (pe_callB (cLen K) (by rfl) (n_len S) PySem.boot_len (pa_cons (pe_lc (own := [("lock", 2)]) rfl sc_key_count.nd (piL K (pv 0)) (blkOk_by (own := [("lock", 2)]) (N := N_key_count) (sc := defScope s_key_count) (by decide +kernel)) (fun _ _ _ _ _ => (pg_name (i := 2) sc_key_count.nd rfl (Or.inl rfl))) (fun _ _ _ _ _ => (pts_one (pt_val (pe_h (ok_has S) (hr.mono (by omega)) rfl (pa_cons (pv 2) (pa_cons (pv 1) pa_nil)))))) (fun _ _ _ _ _ => (pv 2))) pa_nil)))), ?_⟩
    have hz' : (nats ls).length ≤ 40000 := by rw [nats_len]; exact hz
    refine s_ret (ev_is (ev_lenN (el_lcL (fun i => bit (ls.getD i 0) n) (fun i => V.int (ls.getD i 0 : Nat)) (ev_var rfl) hL hz' (fun _ => rfl) (fun i x H1 e1 hi => ?_) (fun i x H1 e1 hi _ => ?_))) ?_) k
    · obtain ⟨c, hc, rfl⟩ := nats_at hi
      rw [getD_of hc]
      exact et_B (ev_has (ev_var rfl) (ev_var rfl) (h64 c (List.mem_of_getElem? hc)) hn)
    · obtain ⟨c, hc, rfl⟩ := nats_at hi
      rw [getD_of hc]
      exact ev_var rfl
    · rw [nats_len, given_filter 0 (fun l => bit l n) (fun l => V.int (l : Nat)), List.length_map]
/-- all of a new list of truths -/
theorem ev_allN {σ : L2.St} {H : Hp} {ta : TE} {bs : List Bool} (h : EvL ta σ H (bs.map V.bl)) : Ev (tCB (rAll K) (tCons ta tNil)) σ H (.bl (bs.all id)) := fun H1 e1 Q q =>
  h H1 e1 _ fun p H2 _ e2 h2 => ⟨p, bs, rfl, sq_of h2, q H2 e2⟩
theorem el_is {σ : L2.St} {H : Hp} {ta : TE} {xs ys : List V} (h : EvL ta σ H xs) (e : xs = ys) : EvL ta σ H ys := e ▸ h
def sp_can_unlock (K : PySem.W.Frag) : Sp := fun vs H Q _ => ∃ (a : Addr) (ls : List Nat) (n c : Nat), vs = [.int c, .ref a] ∧ SqL K H a (nats ls) ∧ n ≤ 6 ∧ ls.length ≤ 40000 ∧ (∀ l ∈ ls, l < 2 ^ n) ∧ c < 2 ^ n ∧ RetV (.bl (opens' n ls c)) H Q
theorem ok_can_unlock (S : Top K mg) : Has P w K mg base CX0 "can_unlock" 1 P_can_unlock (sp_can_unlock K) := by
  refine has_of (g_can_unlock S) (fn_can_unlock S) sc_can_unlock bi_can_unlock (fun vs H Q E h => ?_) (fun cdv A outer s H vs Q E hr h => ?_)
  · obtain ⟨a, ls, n, c, rfl, _⟩ := h
    rfl
  · obtain ⟨a, ls, n, c, rfl, hL, hn, hz, h64, hc, k⟩ := h
    refine ⟨_, (pss_one (ps_ret (pe_callB (cAll K) (by rfl) (n_all S) boot_all' (pa_cons (pe_lc (own := [("lock", 2)]) rfl sc_can_unlock.nd (piL K (pv 1)) (blkOk_by (own := [("lock", 2)]) (N := N_can_unlock) (sc := defScope s_can_unlock) (by decide +kernel)) (fun _ _ _ _ _ => (pg_name (i := 2) sc_can_unlock.nd rfl (Or.inl rfl))) (fun _ _ _ _ _ => pts_nil) (fun _ _ _ _ _ => (pe_cmpR op_gt (pe_op op_and (pv 0) (pv 2)) pe_int (nomark _)))) pa_nil)))), ?_⟩
    have hz' : (nats ls).length ≤ 40000 := by rw [nats_len]; exact hz
    refine s_ret (ev_is (ev_allN (bs := ls.map fun l => meets n l c) (el_is (el_lcL (fun _ => true) (fun i => V.bl (meets n (ls.getD i 0) c)) (ev_var rfl) hL hz' (fun _ => rfl) (fun i x H1 e1 hi => et_yes) (fun i x H1 e1 hi _ => ?_)) ?_)) ?_) k
    · obtain ⟨l, hl, rfl⟩ := nats_at hi
      rw [getD_of hl]
      exact ev_is (ev_op (ev_op (ev_var rfl) (ev_var rfl) rv_I0) ev_c rv_I0) (congrArg V.bl (and_pos hn hc (h64 l (List.mem_of_getElem? hl))))
    · rw [nats_len, given_all 0 (fun l => V.bl (meets n l c)), List.map_map]
      rfl
    · rw [List.all_map]
      rfl
def sp_allowed_by_locks (K : PySem.W.Frag) : Sp := fun vs H Q _ => ∃ (a : Addr) (ls : List Nat) (n : Nat), vs = [.ref a, .int (n : Int)] ∧ SqL K H a (nats ls) ∧ n ≤ 6 ∧ ls.length ≤ 40000 ∧ (∀ l ∈ ls, l < 2 ^ n) ∧ RetL (tab n (opens' n ls)) H Q
theorem ok_allowed_by_locks (S : Top K mg) : Has P w K mg base CX0 "allowed_by_locks" 2 P_allowed_by_locks (sp_allowed_by_locks K) := by
  refine has_of (g_allowed_by_locks S) (fn_allowed_by_locks S) sc_allowed_by_locks bi_allowed_by_locks (fun vs H Q E h => ?_) (fun cdv A outer s H vs Q E hr h => ?_)
  · obtain ⟨a, ls, n, rfl, _⟩ := h
    rfl
  · obtain ⟨a, ls, n, rfl, hL, hn, hz, h64, k⟩ := h
    refine ⟨_, (pss_one (ps_ret (pe_lc (own := [("company", 2)]) rfl sc_allowed_by_locks.nd (piL K (pe_h (ok_all_companies S) (hr.mono (by omega)) rfl (pa_cons (pv 1) pa_nil))) (blkOk_by (own := [("company", 2)]) (N := N_allowed_by_locks) (sc := defScope s_allowed_by_locks) (by decide +kernel)) (fun _ _ _ _ _ => (pg_name (i := 2) sc_allowed_by_locks.nd rfl (Or.inl rfl))) (fun _ _ _ _ _ => pts_nil) (fun _ _ _ _ _ => (pe_h (ok_can_unlock S) (hr.mono (by omega)) rfl (pa_cons (pv 2) (pa_cons (pv 0) pa_nil))))))), ?_⟩
    have hp := pow64 hn
    have hl : (nats (List.range (2 ^ n))).length ≤ 40000 := by rw [nats_len, List.length_range]; omega
    have e : tab n (opens' n ls) = given (nats (List.range (2 ^ n))).length (fun _ => true) (fun i => V.bl (opens' n ls ((List.range (2 ^ n)).getD i 0))) := by
      rw [nats_len, given_all 0 (fun c => V.bl (opens' n ls c))]
      rfl
    rw [e] at k
    refine s_retL (el_lcNL (fun _ => true) _ (el_h (ea_cons (ev_var rfl) ea_nil) fun H2 e2 Q E q => ⟨n, rfl, by omega, q⟩) hl (fun _ => rfl) (fun i x H2 e2 hi => et_yes) (fun i x H2 e2 hi _ => ?_)) k
    obtain ⟨c, hc, rfl⟩ := nats_at hi
    rw [getD_of hc]
    exact ev_h (ea_cons (ev_var rfl) (ea_cons (ev_var rfl) ea_nil)) fun H3 e3 Q E q => ⟨a, ls, n, c, rfl, ex_l (e2.trans e3) hL, hn, hz, h64, List.mem_range.mp (List.mem_of_getElem? hc), q⟩
def sp_where (K : PySem.W.Frag) : Sp := fun vs H Q _ => ∃ (a b : Addr) (n : Nat) (f g : Nat → Bool), vs = [.ref a, .ref b] ∧ Tab K H a n f ∧ Tab K H b n g ∧ RetL (nats ((List.range (2 ^ n)).filter fun c => f c != g c)) H Q
theorem dec_bb (a b : Bool) : (!decide (V.bl a = V.bl b)) = (a != b) := by cases a <;> cases b <;> rfl
theorem ok_where_otherwise (S : Top K mg) : Has P w K mg base CX0 "where_otherwise" 2 P_where_otherwise (sp_where K) := by
  refine has_of (g_where_otherwise S) (fn_where_otherwise S) sc_where_otherwise bi_where_otherwise (fun vs H Q E h => ?_) (fun cdv A outer s H vs Q E hr h => ?_)
  · obtain ⟨a, b, n, f, g, rfl, _⟩ := h
    rfl
  · obtain ⟨a, b, n, f, g, rfl, hT, hG, k⟩ := h
    refine ⟨_, (pss_one (ps_ret (pe_lc (own := [("company", 2)]) rfl sc_where_otherwise.nd (pi_range1 (by rfl) (n_range S) (pa_cons (pe_callB (cLen K) (by rfl) (n_len S) PySem.boot_len (pa_cons (pv 0) pa_nil)) pa_nil)) (blkOk_by (own := [("company", 2)]) (N := N_where_otherwise) (sc := defScope s_where_otherwise) (by decide +kernel)) (fun _ _ _ _ _ => (pg_name (i := 2) sc_where_otherwise.nd rfl (Or.inl rfl))) (fun _ _ _ _ _ => (pts_one (pt_cmpR op_ne (pe_ix (ixL K) (pv 0) (pv 2) (fun _ _ => rfl)) (pe_ix (ixL K) (pv 1) (pv 2) (fun _ _ => rfl)) (nomark _)))) (fun _ _ _ _ _ => (pv 2))))), ?_⟩
    have e : nats ((List.range (2 ^ n)).filter fun c => f c != g c) = given ((tab n f).length : Int).toNat (fun c => f c != g c) (fun (i : Nat) => V.int (i : Int)) := by
      rw [given_nats, Int.toNat_natCast, tab_len]
    rw [e] at k
    refine s_retL (el_lcR1 (n := ((tab n f).length : Int)) (fun c => f c != g c) _ (ea_cons (ev_len (ev_var rfl) hT.2) ea_nil) (tab_rng hT.1) (fun _ => rfl) (fun i H1 e1 hi => ?_) (fun i H1 e1 hi _ => ev_var rfl)) k
    rw [tab_len] at hi
    have hi2 : i < 2 ^ n := by omega
    exact et_is (et_test (ev_op (ev_may (hT.ex e1) hi2 (ev_var rfl) (ev_var rfl)) (ev_may (hG.ex e1) hi2 (ev_var rfl) (ev_var rfl)) (rv_ne rfl))) (dec_bb _ _)
def sp_swings (K : PySem.W.Frag) : Sp := fun vs H Q _ => ∃ (a : Addr) (n i c : Nat) (f : Nat → Bool), vs = [.ref a, .int i, .int c] ∧ Tab K H a n f ∧ i < n ∧ c < 2 ^ n ∧ RetV (.bl (swingsB f i c)) H Q
theorem ok_swings (S : Top K mg) : Has P w K mg base CX0 "swings" 2 P_swings (sp_swings K) := by
  refine has_of (g_swings S) (fn_swings S) sc_swings bi_swings (fun vs H Q E h => ?_) (fun cdv A outer s H vs Q E hr h => ?_)
  · obtain ⟨a, n, i, c, f, rfl, _⟩ := h
    rfl
  · obtain ⟨a, n, i, c, f, rfl, hT, hi, hc, k⟩ := h
    refine ⟨_, (pss_cons (ps_if (PW.pt (pw_or (pt_val (pe_h (ok_has S) (hr.mono (by omega)) rfl (pa_cons (pv 2) (pa_cons (pv 1) pa_nil)))) (pw_or1 (pt_val (pe_ix (ixL K) (pv 0) (pv 2) (fun _ _ => rfl))))))
      (pss_one (ps_ret pe_bl)) pss_nil)
      (pss_one (ps_ret (pe_ix (ixL K) (pv 0) (pe_op op_add (pv 2) (pe_h (ok_alone S) (hr.mono (by omega)) rfl (pa_cons (pv 1) pa_nil))) (fun _ _ => rfl))))), ?_⟩
    have hn := hT.1
    have h64 : c < 64 := by have := pow64 hT.1; omega
    refine q_when (b := bit c i || f c) (et_or (et_B (ev_has (ev_var rfl) (ev_var rfl) h64 (by omega))) fun _ => et_B (ev_may hT hc (ev_var rfl) (ev_var rfl))) (fun hb H1 e1 => ?_) fun hb H1 e1 => ?_
    · have e : swingsB f i c = false := by
        unfold swingsB
        cases h1 : bit c i with
        | true => rfl
        | false =>
          rw [h1] at hb
          have h2 : f c = true := hb
          rw [h2]
          rfl
      rw [e] at k
      exact s_ret ev_c fun H2 e2 => k H2 (e1.trans e2)
    · obtain ⟨h1, h2⟩ := Bool.or_eq_false_iff.mp hb
      have e : swingsB f i c = f (c + 2 ^ i) := by
        unfold swingsB
        rw [h1, h2]
        rfl
      rw [e] at k
      exact s_ret (ev_may (hT.ex e1) (bit_add' hn hi hc h1) (ev_var rfl) (ev_is (ev_op (ev_var rfl) (ev_alone (ev_var rfl) (by omega)) rv_I0) (by rw [Int.natCast_add]))) fun H2 e2 => k H2 (e1.trans e2)
def sp_swing_count (K : PySem.W.Frag) : Sp := fun vs H Q _ => ∃ (a : Addr) (n i : Nat) (f : Nat → Bool), vs = [.ref a, .int i] ∧ Tab K H a n f ∧ i < n ∧ RetV (.int (((List.range (2 ^ n)).filter (swingsB f i)).length : Nat)) H Q
theorem ok_swing_count (S : Top K mg) : Has P w K mg base CX0 "swing_count" 3 P_swing_count (sp_swing_count K) := by
  refine has_of (g_swing_count S) (fn_swing_count S) sc_swing_count bi_swing_count (fun vs H Q E h => ?_) (fun cdv A outer s H vs Q E hr h => ?_)
  · obtain ⟨a, n, i, f, rfl, _⟩ := h
    rfl
  · obtain ⟨a, n, i, f, rfl, hT, hi, k⟩ := h
    refine ⟨_, (pss_one (ps_ret (pe_callB (cLen K) (by rfl) (n_len S) PySem.boot_len (pa_cons (pe_lc (own := [("company", 2)]) rfl sc_swing_count.nd (pi_range1 (by rfl) (n_range S) (pa_cons (pe_callB (cLen K) (by rfl) (n_len S) PySem.boot_len (pa_cons (pv 0) pa_nil)) pa_nil)) (blkOk_by (own := [("company", 2)]) (N := N_swing_count) (sc := defScope s_swing_count) (by decide +kernel)) (fun _ _ _ _ _ => (pg_name (i := 2) sc_swing_count.nd rfl (Or.inl rfl))) (fun _ _ _ _ _ => (pts_one (pt_val (pe_h (ok_swings S) (hr.mono (by omega)) rfl (pa_cons (pv 0) (pa_cons (pv 1) (pa_cons (pv 2) pa_nil))))))) (fun _ _ _ _ _ => (pv 2))) pa_nil)))), ?_⟩
    refine s_ret (ev_is (ev_lenN (el_lcR1 (n := ((tab n f).length : Int)) (swingsB f i) (fun (c : Nat) => V.int (c : Int)) (ea_cons (ev_len (ev_var rfl) hT.2) ea_nil) (tab_rng hT.1) (fun _ => rfl) (fun c H1 e1 hc => ?_) (fun c H1 e1 hc _ => ev_var rfl))) ?_) k
    · rw [tab_len] at hc
      exact et_B (ev_h (ea_cons (ev_var rfl) (ea_cons (ev_var rfl) (ea_cons (ev_var rfl) ea_nil))) fun H2 e2 Q E q => ⟨a, n, i, c, f, rfl, hT.ex (e1.trans e2), hi, by omega, q⟩)
    · rw [given_nats, nats_len, Int.toNat_natCast, tab_len]
def sp_size : Sp := fun vs H Q _ => ∃ c n : Nat, vs = [.int c, .int n] ∧ c < 64 ∧ n ≤ 6 ∧ RetV (.int (Vbpxaf.sized n c : Nat)) H Q
theorem ok_size (S : Top K mg) : Has P w K mg base CX0 "size" 2 P_size sp_size := by
  refine has_of (g_size S) (fn_size S) sc_size bi_size (fun vs H Q E h => ?_) (fun cdv A outer s H vs Q E hr h => ?_)
  · obtain ⟨c, n, rfl, _⟩ := h
    rfl
  · obtain ⟨c, n, rfl, hc, hn, k⟩ := h
    refine ⟨_, (pss_one (ps_ret (pe_callB (cLen K) (by rfl) (n_len S) PySem.boot_len (pa_cons (pe_lc (own := [("officer", 2)]) rfl sc_size.nd (pi_range1 (by rfl) (n_range S) (pa_cons (pv 1) pa_nil)) (blkOk_by (own := [("officer", 2)]) (N := N_size) (sc := defScope s_size) (by decide +kernel)) (fun _ _ _ _ _ => (pg_name (i := 2) sc_size.nd rfl (Or.inl rfl))) (fun _ _ _ _ _ => (pts_one (pt_val (pe_h (ok_has S) (hr.mono (by omega)) rfl (pa_cons (pv 0) (pa_cons (pv 2) pa_nil)))))) (fun _ _ _ _ _ => (pv 2))) pa_nil)))), ?_⟩
    refine s_ret (ev_is (ev_lenN (el_lcR1 (n := (n : Int)) (bit c) (fun (i : Nat) => V.int (i : Int)) (ea_cons (ev_var rfl) ea_nil) ⟨by omega, by omega⟩ (fun _ => rfl) (fun i H1 e1 hi => ?_) (fun i H1 e1 hi _ => ev_var rfl))) ?_) k
    · exact et_B (ev_has (ev_var rfl) (ev_var rfl) hc (by omega))
    · rw [given_nats, nats_len, Int.toNat_natCast]
      rfl
end
end CK
/-! influence.py -/
namespace CK
open PySem PySem.Spec PyProof.Rows L2 Evl
open Vbpxaf (bit members sized fact)
section
variable {P : Program} {w : World} {K : PySem.W.Frag} {mg : Str → Option Value} {base : Heap}
theorem le5 {n : Nat} {f : Nat → Bool} (h : n ≤ 6) : 0 ≤ ((tab n f).length : Int) ∧ ((tab n f).length : Int) ≤ 100000 := ⟨(tab_rng h).1, Int.le_trans (tab_rng h).2 (by decide)⟩
theorem orders_at : ∀ {n : Nat}, n < 7 → atI (t_ORDERS.map (He.Dv.v K)) (n : Int) = some (.int ((fact n : Nat) : Int))
  | 0, _ => rfl | 1, _ => rfl | 2, _ => rfl | 3, _ => rfl | 4, _ => rfl | 5, _ => rfl | 6, _ => rfl
  | n + 7, h => absurd h (by omega)
theorem ev_orders (S : Top K mg) {σ : L2.St} {H : Hp} {te : TE} {n : Nat} (h : Ev te σ H (.int (n : Int))) (hn : n ≤ 6) : Ev (tOp (rIxT K) (tC (.ref (He.ga K "ORDERS"))) te) σ H (.int ((fact n : Nat) : Int)) := ev_op ev_c h (rv_ixT (tu_ORDERS S H) (orders_at (by omega)))
theorem ev_size {σ : L2.St} {H : Hp} {E : XK} {c n : Nat} {ta tb : TE} (h1 : Ev ta σ H (.int (c : Int))) (h2 : Ev tb σ H (.int (n : Int))) (hc : c < 64) (hn : n ≤ 6) : Ev (tCall sp_size [] E (tCons ta (tCons tb tNil))) σ H (.int (sized n c : Nat)) :=
  ev_h (ea_cons h1 (ea_cons h2 ea_nil)) fun H1 _ Q E k => ⟨c, n, rfl, hc, hn, k⟩
def sp_swung (K : PySem.W.Frag) : Sp := fun vs H Q _ => ∃ (a : Addr) (n i : Nat) (f : Nat → Bool), vs = [.ref a, .int n, .int i] ∧ Tab K H a n f ∧ i < n ∧ RetV (.int (swungTo n f i (2 ^ n) : Nat)) H Q
theorem ok_swung_orders (S : Top K mg) : Has P w K mg base CX0 "swung_orders" 3 P_swung_orders (sp_swung K) := by
  refine has_of (g_swung_orders S) (fn_swung_orders S) sc_swung_orders bi_swung_orders (fun vs H Q E h => ?_) (fun cdv A outer s H vs Q E hr h => ?_)
  · obtain ⟨a, n, i, f, rfl, _⟩ := h
    rfl
  · obtain ⟨a, n, i, f, rfl, hT, hi, k⟩ := h
    refine ⟨_, (pss_cons (ps_set (i := 3) sc_swung_orders.nd rfl (Or.inl rfl) pe_int)
      (pss_cons (ps_for PassesOwn.never rfl (pi_range1 (by rfl) (n_range S) (pa_cons (pe_callB (cLen K) (by rfl) (n_len S) PySem.boot_len (pa_cons (pv 0) pa_nil)) pa_nil)) (pg_name (i := 4) sc_swung_orders.nd rfl (Or.inl rfl))
      (pss_one (ps_if (pt_val (pe_h (ok_swings S) (hr.mono (by omega)) rfl (pa_cons (pv 0) (pa_cons (pv 2) (pa_cons (pv 4) pa_nil)))))
      (pss_cons (ps_set (i := 5) sc_swung_orders.nd rfl (Or.inl rfl) (pe_h (ok_size S) (hr.mono (by omega)) rfl (pa_cons (pv 4) (pa_cons (pv 1) pa_nil))))
      (pss_one (ps_set (i := 3) sc_swung_orders.nd rfl (Or.inl rfl) (pe_op op_add (pv 3) (pe_op op_mul (pe_ix (ixT K) (pe_gr (g_ORDERS S) rfl) (pv 5) (fun _ _ => rfl)) (pe_ix (ixT K) (pe_gr (g_ORDERS S) rfl) (pe_op op_sub (pe_op op_sub (pv 1) pe_int) (pv 5)) (fun _ _ => rfl))))))) pss_nil)))
      (pss_one (ps_ret (pv 3))))), ?_⟩
    have hn := hT.1
    have h64 := pow64 hn
    refine q_asg (v := .int (swungTo n f i 0 : Nat)) ev_c fun H1 e1 => ?_
    refine q_forR1 (n := ((tab n f).length : Int)) (ea_cons (ev_len (ev_var rfl) (hT.ex e1).2) ea_nil) (le5 hn)
      (fun c σ' H' => ∃ u v, σ' = [some (.ref a), some (.int n), some (.int i), some (.int (swungTo n f i c : Nat)), u, v] ∧ Ex H H')
      (fun H2 e2 => ⟨none, none, rfl, e1.trans e2⟩) ?_ ?_
    · rintro c σ' H' hc ⟨u, v, rfl, e2⟩
      rw [tab_len] at hc
      have hc2 : c < 2 ^ n := by omega
      have es := swung_succ n f i c
      refine s_when (b := swingsB f i c) (et_B (ev_h (ea_cons (ev_var rfl) (ea_cons (ev_var rfl) (ea_cons (ev_var rfl) ea_nil))) fun H3 e3 Q E q => ⟨a, n, i, c, f, rfl, hT.ex (e2.trans e3), hi, hc2, q⟩)) (fun hb H3 e3 => ?_) fun hb H3 e3 => ?_
      · have hbit : bit c i = false := by
          unfold swingsB at hb
          rw [Bool.and_eq_true] at hb
          simpa using hb.1
        have hs := sized_lt hi hbit
        rw [if_pos hb] at es
        refine q_asg (v := .int (sized n c : Nat)) (ev_size (ev_var rfl) (ev_var rfl) (by omega) hn) fun H4 e4 => ?_
        refine s_asg (v := .int (swungTo n f i (c + 1) : Nat)) (ev_is (ev_op (ev_var rfl) (ev_op (ev_orders S (ev_var rfl) (by omega)) (ev_orders S (n := n - 1 - sized n c) (ev_is (ev_op (ev_op (ev_var rfl) ev_c rv_I0) (ev_var rfl) rv_I0) (congrArg V.int (by omega))) (by omega)) (rv_I ?_)) rv_I0) ?_) fun H5 e5 => ⟨_, _, rfl, e2.trans (e3.trans (e4.trans e5))⟩
        · have := fact_le' (i := sized n c) (by omega)
          exact .inl ⟨by omega, by omega⟩
        · rw [es, Int.natCast_add, Int.natCast_mul]
      · rw [if_neg (by rw [hb]; simp), Nat.add_zero] at es
        refine ⟨some (.int (c : Int)), v, ?_, e2.trans e3⟩
        rw [es]
        rfl
    · rintro σ' H' ⟨u, v, rfl, e2⟩
      rw [Int.toNat_natCast, tab_len]
      exact s_ret (ev_var rfl) fun H3 e3 => k H3 (e2.trans e3)
def sp_gcd : Sp := fun vs H Q _ => ∃ a b : Nat, vs = [.int a, .int b] ∧ a < 1073741824 ∧ RetV (.int (Nat.gcd a b : Nat)) H Q
theorem ok_greatest_divisor (S : Top K mg) : Has P w K mg base CX0 "greatest_divisor" 1 P_greatest_divisor sp_gcd := by
  refine has_of (g_greatest_divisor S) (fn_greatest_divisor S) sc_greatest_divisor bi_greatest_divisor (fun vs H Q E h => ?_) (fun cdv A outer s H vs Q E hr h => ?_)
  · obtain ⟨a, b, rfl, _⟩ := h
    rfl
  · obtain ⟨a, b, rfl, ha, k⟩ := h
    refine ⟨_, (pss_cons (ps_while PassesOwn.never (pt_cmpR op_gt (pv 0) pe_int (nomark _))
      (pss_cons (ps_set (i := 2) sc_greatest_divisor.nd rfl (Or.inl rfl) (pe_op op_mod (pv 1) (pv 0)))
      (pss_cons (ps_set (i := 1) sc_greatest_divisor.nd rfl (Or.inl rfl) (pv 0))
      (pss_one (ps_set (i := 0) sc_greatest_divisor.nd rfl (Or.inl rfl) (pv 2))))))
      (pss_one (ps_ret (pv 1)))), ?_⟩
    refine q_while (fun m σ' H' => ∃ (b' : Nat) (v : Option V), σ' = [some (.int (m : Int)), some (.int (b' : Int)), v] ∧ Nat.gcd m b' = Nat.gcd a b ∧ Ex H H') a ⟨b, none, rfl, rfl, Ex.refl H⟩ ?_
    rintro m σ' H' ⟨b', v, rfl, hg, e1⟩
    refine ⟨decide (0 < m), et_is (et_test (ev_op (ev_var rfl) ev_c rv_I0)) (decide_eq_decide.mpr (by omega)), fun hb H2 e2 => ?_, fun hb H2 e2 => ?_⟩
    · have hm := of_decide_eq_true hb
      refine ⟨fun σ2 H2 => ∃ (b' : Nat) (m' : Nat) (v : Option V), m' < m ∧ σ2 = [some (.int (m' : Int)), some (.int (b' : Int)), v] ∧ Nat.gcd m' b' = Nat.gcd a b ∧ Ex H H2, fun σ2 H2 ⟨b2, m2, v2, hlt, e, hg2, ex⟩ => ⟨m2, hlt, b2, v2, e, hg2, ex⟩, ?_⟩
      refine q_asg (v := .int ((b' % m : Nat) : Int)) (ev_is (ev_op (ev_var rfl) (ev_var rfl) (rv_I (by omega))) (congrArg V.int (Int.natCast_emod b' m).symm)) fun H3 e3 => ?_
      refine q_asg (v := .int (m : Int)) (ev_var rfl) fun H4 e4 => ?_
      exact s_asg (v := .int ((b' % m : Nat) : Int)) (ev_var rfl) fun H5 e5 => ⟨m, b' % m, _, Nat.mod_lt _ hm, rfl, by rw [gcd_turn]; exact hg, ((e1.trans e2).trans e3).trans (e4.trans e5)⟩
    · have hm : m = 0 := by
        have := of_decide_eq_false hb
        omega
      subst hm
      rw [Nat.gcd_zero_left] at hg
      subst hg
      exact s_ret (ev_var rfl) fun H3 e3 => k H3 ((e1.trans e2).trans e3)
/-- a power in lowest terms -/
def powerL (n : Nat) (f : Nat → Bool) (i : Nat) : List Nat := [swungTo n f i (2 ^ n) / Nat.gcd (swungTo n f i (2 ^ n)) (fact n), fact n / Nat.gcd (swungTo n f i (2 ^ n)) (fact n)]
def sp_power (K : PySem.W.Frag) : Sp := fun vs H Q _ => ∃ (a : Addr) (n i : Nat) (f : Nat → Bool), vs = [.ref a, .int n, .int i] ∧ Tab K H a n f ∧ i < n ∧ RetL (nats (powerL n f i)) H Q
theorem ok_officer_power (S : Top K mg) : Has P w K mg base CX0 "officer_power" 4 P_officer_power (sp_power K) := by
  refine has_of (g_officer_power S) (fn_officer_power S) sc_officer_power bi_officer_power (fun vs H Q E h => ?_) (fun cdv A outer s H vs Q E hr h => ?_)
  · obtain ⟨a, n, i, f, rfl, _⟩ := h
    rfl
  · obtain ⟨a, n, i, f, rfl, hT, hi, k⟩ := h
    refine ⟨_, (pss_cons (ps_set (i := 3) sc_officer_power.nd rfl (Or.inl rfl) (pe_h (ok_swung_orders S) (hr.mono (by omega)) rfl (pa_cons (pv 0) (pa_cons (pv 1) (pa_cons (pv 2) pa_nil)))))
      (pss_cons (ps_set (i := 4) sc_officer_power.nd rfl (Or.inl rfl) (pe_h (ok_greatest_divisor S) (hr.mono (by omega)) rfl (pa_cons (pv 3) (pa_cons (pe_ix (ixT K) (pe_gr (g_ORDERS S) rfl) (pv 1) (fun _ _ => rfl)) pa_nil))))
      (pss_one (ps_ret (pe_lst (pa_cons (pe_op op_fdiv (pv 3) (pv 4)) (pa_cons (pe_op op_fdiv (pe_ix (ixT K) (pe_gr (g_ORDERS S) rfl) (pv 1) (fun _ _ => rfl)) (pv 4)) pa_nil))))))), ?_⟩
    have hn := hT.1
    have h64 := pow64 hn
    have hs := swung_le hn f i (2 ^ n)
    have hf := fact_le' hn
    have hg0 : 0 < Nat.gcd (swungTo n f i (2 ^ n)) (fact n) := Nat.gcd_pos_of_pos_right _ (by omega)
    have hg1 : Nat.gcd (swungTo n f i (2 ^ n)) (fact n) ≤ fact n := Nat.le_of_dvd (by omega) (Nat.gcd_dvd_right _ _)
    refine q_asg (v := .int (swungTo n f i (2 ^ n) : Nat)) (ev_h (ea_cons (ev_var rfl) (ea_cons (ev_var rfl) (ea_cons (ev_var rfl) ea_nil))) fun H1 e1 Q E q => ⟨a, n, i, f, rfl, hT.ex e1, hi, q⟩) fun H1 e1 => ?_
    refine q_asg (v := .int (Nat.gcd (swungTo n f i (2 ^ n)) (fact n) : Nat)) (ev_h (ea_cons (ev_var rfl) (ea_cons (ev_orders S (ev_var rfl) hn) ea_nil)) fun H2 e2 Q E q => ⟨_, _, rfl, by omega, q⟩) fun H2 e2 => ?_
    refine s_retL (el_lst (vs := nats (powerL n f i)) (ea_cons (ev_is (ev_op (ev_var rfl) (ev_var rfl) (rv_I ⟨by omega, by omega⟩)) ?_) (ea_cons (ev_is (ev_op (ev_orders S (ev_var rfl) hn) (ev_var rfl) (rv_I ⟨by omega, by omega⟩)) ?_) ea_nil)) (by simp [nats, powerL])) fun p H3 hp e3 h3 => k p H3 (fresh_back (e1.trans e2) hp) ((e1.trans e2).trans e3) h3
    · exact congrArg V.int (Int.natCast_ediv _ _).symm
    · exact congrArg V.int (Int.natCast_ediv _ _).symm
def idleL (n : Nat) (f : Nat → Bool) : List Nat := (List.range n).filter fun i => ((List.range (2 ^ n)).filter (swingsB f i)).isEmpty
def sp_idle (K : PySem.W.Frag) : Sp := fun vs H Q _ => ∃ (a : Addr) (n : Nat) (f : Nat → Bool), vs = [.ref a, .int n] ∧ Tab K H a n f ∧ RetL (nats (idleL n f)) H Q
theorem ok_idle_officers (S : Top K mg) : Has P w K mg base CX0 "idle_officers" 4 P_idle_officers (sp_idle K) := by
  refine has_of (g_idle_officers S) (fn_idle_officers S) sc_idle_officers bi_idle_officers (fun vs H Q E h => ?_) (fun cdv A outer s H vs Q E hr h => ?_)
  · obtain ⟨a, n, f, rfl, _⟩ := h
    rfl
  · obtain ⟨a, n, f, rfl, hT, k⟩ := h
    refine ⟨_, (pss_one (ps_ret (pe_lc (own := [("officer", 2)]) rfl sc_idle_officers.nd (pi_range1 (by rfl) (n_range S) (pa_cons (pv 1) pa_nil)) (blkOk_by (own := [("officer", 2)]) (N := N_idle_officers) (sc := defScope s_idle_officers) (by decide +kernel)) (fun _ _ _ _ _ => (pg_name (i := 2) sc_idle_officers.nd rfl (Or.inl rfl))) (fun _ _ _ _ _ => (pts_one (pt_cmpR op_eq (pe_h (ok_swing_count S) (hr.mono (by omega)) rfl (pa_cons (pv 0) (pa_cons (pv 2) pa_nil))) pe_int (nomark _)))) (fun _ _ _ _ _ => (pv 2))))), ?_⟩
    have hn := hT.1
    have e : nats (idleL n f) = given (n : Int).toNat (fun i => ((List.range (2 ^ n)).filter (swingsB f i)).isEmpty) (fun (i : Nat) => V.int (i : Int)) := by
      rw [given_nats, Int.toNat_natCast]
      rfl
    rw [e] at k
    refine s_retL (el_lcR1 (n := (n : Int)) (fun i => ((List.range (2 ^ n)).filter (swingsB f i)).isEmpty) _ (ea_cons (ev_var rfl) ea_nil) ⟨by omega, by omega⟩ (fun _ => rfl) (fun i H1 e1 hi => ?_) (fun i H1 e1 hi _ => ev_var rfl)) k
    refine et_is (et_test (ev_op (ev_h (ea_cons (ev_var rfl) (ea_cons (ev_var rfl) ea_nil)) fun H2 e2 Q E q => ⟨a, n, i, f, rfl, hT.ex (e1.trans e2), by omega, q⟩) ev_c (rv_eq rfl))) ?_
    cases hl : (List.range (2 ^ n)).filter (swingsB f i) with
    | nil => rfl
    | cons x r => exact decide_eq_false fun z => by injection z with z; simp at z; omega
theorem xor_nat : ∀ c : Fin 64, ∀ d : Fin 64, Builtin.bitXor ((c.val : Nat) : Int) ((d.val : Nat) : Int) = ((c.val ^^^ d.val : Nat) : Int) := by decide +kernel
theorem xor_lt : ∀ c : Fin 64, ∀ d : Fin 64, c.val ^^^ d.val < 64 := by decide +kernel
def sp_exchanged : Sp := fun vs H Q _ => ∃ c a b : Nat, vs = [.int c, .int a, .int b] ∧ c < 64 ∧ a < 6 ∧ b < 6 ∧ RetV (.int (exN c a b : Nat)) H Q
theorem ok_exchanged (S : Top K mg) : Has P w K mg base CX0 "exchanged" 2 P_exchanged sp_exchanged := by
  refine has_of (g_exchanged S) (fn_exchanged S) sc_exchanged bi_exchanged (fun vs H Q E h => ?_) (fun cdv A outer s H vs Q E hr h => ?_)
  · obtain ⟨c, a, b, rfl, _⟩ := h
    rfl
  · obtain ⟨c, a, b, rfl, hc, ha, hb, k⟩ := h
    refine ⟨_, (pss_cons (ps_if (pt_cmpR op_eq (pe_h (ok_has S) (hr.mono (by omega)) rfl (pa_cons (pv 0) (pa_cons (pv 1) pa_nil))) (pe_h (ok_has S) (hr.mono (by omega)) rfl (pa_cons (pv 0) (pa_cons (pv 2) pa_nil))) (nomark _))
      (pss_one (ps_ret (pv 0))) pss_nil)
      (pss_one (ps_ret (pe_op op_xor (pe_op op_xor (pv 0) (pe_h (ok_alone S) (hr.mono (by omega)) rfl (pa_cons (pv 1) pa_nil))) (pe_h (ok_alone S) (hr.mono (by omega)) rfl (pa_cons (pv 2) pa_nil)))))), ?_⟩
    have pa : 2 ^ a < 64 := by have := pow_lt (n := a) (m := 6) ha; omega
    have pb : 2 ^ b < 64 := by have := pow_lt (n := b) (m := 6) hb; omega
    refine q_when (b := decide (bit c a = bit c b)) (et_is (et_test (ev_op (ev_has (ev_var rfl) (ev_var rfl) hc ha) (ev_has (ev_var rfl) (ev_var rfl) hc hb) (rv_eq rfl))) (by cases bit c a <;> cases bit c b <;> rfl)) (fun hq H1 e1 => ?_) fun hq H1 e1 => ?_
    · have e : exN c a b = c := if_pos (of_decide_eq_true hq)
      rw [e] at k
      exact s_ret (ev_var rfl) fun H2 e2 => k H2 (e1.trans e2)
    · have e : exN c a b = c ^^^ 2 ^ a ^^^ 2 ^ b := if_neg (of_decide_eq_false hq)
      rw [e] at k
      refine s_ret (ev_is (ev_op (ev_op (ev_var rfl) (ev_alone (ev_var rfl) (by omega)) rv_I0) (ev_alone (ev_var rfl) (by omega)) rv_I0) ?_) fun H2 e2 => k H2 (e1.trans e2)
      have h1 := xor_nat ⟨c, hc⟩ ⟨2 ^ a, pa⟩
      have h2 := xor_nat ⟨c ^^^ 2 ^ a, xor_lt ⟨c, hc⟩ ⟨2 ^ a, pa⟩⟩ ⟨2 ^ b, pb⟩
      dsimp only at h1 h2
      rw [h1, h2]
def alikeB (n : Nat) (f : Nat → Bool) (a b : Nat) : Bool := (List.range (2 ^ n)).all fun c => f c == f (exN c a b)
def sp_alike (K : PySem.W.Frag) : Sp := fun vs H Q _ => ∃ (p : Addr) (n a b : Nat) (f : Nat → Bool), vs = [.ref p, .int a, .int b] ∧ Tab K H p n f ∧ a < n ∧ b < n ∧ RetV (.bl (alikeB n f a b)) H Q
theorem ok_are_alike (S : Top K mg) : Has P w K mg base CX0 "are_alike" 3 P_are_alike (sp_alike K) := by
  refine has_of (g_are_alike S) (fn_are_alike S) sc_are_alike bi_are_alike (fun vs H Q E h => ?_) (fun cdv A outer s H vs Q E hr h => ?_)
  · obtain ⟨p, n, a, b, f, rfl, _⟩ := h
    rfl
  · obtain ⟨p, n, a, b, f, rfl, hT, ha, hb, k⟩ := h
    refine ⟨_, (pss_cons (ps_for PassesOwn.never rfl (pi_range1 (by rfl) (n_range S) (pa_cons (pe_callB (cLen K) (by rfl) (n_len S) PySem.boot_len (pa_cons (pv 0) pa_nil)) pa_nil)) (pg_name (i := 3) sc_are_alike.nd rfl (Or.inl rfl))
      (pss_one (ps_if (pt_cmpR op_ne (pe_ix (ixL K) (pv 0) (pv 3) (fun _ _ => rfl)) (pe_ix (ixL K) (pv 0) (pe_h (ok_exchanged S) (hr.mono (by omega)) rfl (pa_cons (pv 3) (pa_cons (pv 1) (pa_cons (pv 2) pa_nil)))) (fun _ _ => rfl)) (nomark _))
      (pss_one (ps_ret pe_bl)) pss_nil)))
      (pss_one (ps_ret pe_bl))), ?_⟩
    have hn := hT.1
    have h64 := pow64 hn
    refine q_forR1 (n := ((tab n f).length : Int)) (ea_cons (ev_len (ev_var rfl) hT.2) ea_nil) (le5 hn)
      (fun c σ' H' => ∃ u, σ' = [some (.ref p), some (.int a), some (.int b), u] ∧ Ex H H' ∧ ∀ d, d < c → f d = f (exN d a b))
      (fun H2 e2 => ⟨none, rfl, e2, fun d hd => absurd hd (by omega)⟩) ?_ ?_
    · rintro c σ' H' hc ⟨u, rfl, e2, hd⟩
      rw [tab_len] at hc
      have hc2 : c < 2 ^ n := by omega
      have hT2 := hT.ex e2
      refine s_when (b := f c != f (exN c a b)) (et_is (et_test (ev_op (ev_may hT2 hc2 (ev_var rfl) (ev_var rfl)) (ev_may hT2 (ex_lt' hn ha hb hc2) (ev_var rfl) (ev_h (ea_cons (ev_var rfl) (ea_cons (ev_var rfl) (ea_cons (ev_var rfl) ea_nil))) fun H3 e3 Q E q => ⟨c, a, b, rfl, by omega, by omega, by omega, q⟩)) (rv_ne rfl))) (dec_bb _ _)) (fun hq H3 e3 => ?_) fun hq H3 e3 => ?_
      · have e : alikeB n f a b = false := by
          unfold alikeB
          rw [List.all_eq_false]
          refine ⟨c, List.mem_range.mpr hc2, ?_⟩
          simpa using hq
        rw [e] at k
        exact s_ret ev_c fun H4 e4 => k H4 ((e2.trans e3).trans e4)
      · refine ⟨_, rfl, e2.trans e3, fun d h1 => ?_⟩
        rcases Nat.lt_succ_iff_lt_or_eq.mp h1 with h2 | rfl
        · exact hd d h2
        · simpa using hq
    · rintro σ' H' ⟨u, rfl, e2, hd⟩
      rw [Int.toNat_natCast, tab_len] at hd
      have e : alikeB n f a b = true := by
        unfold alikeB
        rw [List.all_eq_true]
        intro c hc
        rw [← hd c (List.mem_range.mp hc)]
        exact beq_self_eq_true _
      rw [e] at k
      exact s_ret ev_c fun H4 e4 => k H4 (e2.trans e4)
def hindF (n : Nat) (f : Nat → Bool) (c : Nat) : Bool := !f (2 ^ n - 1 - c)
def sp_hinder (K : PySem.W.Frag) : Sp := fun vs H Q _ => ∃ (a : Addr) (n : Nat) (f : Nat → Bool), vs = [.ref a, .int n] ∧ Tab K H a n f ∧ RetL (nats (leastL n (hindF n f))) H Q
theorem ok_least_hindering (S : Top K mg) : Has P w K mg base CX0 "least_hindering" 4 P_least_hindering (sp_hinder K) := by
  refine has_of (g_least_hindering S) (fn_least_hindering S) sc_least_hindering bi_least_hindering (fun vs H Q E h => ?_) (fun cdv A outer s H vs Q E hr h => ?_)
  · obtain ⟨a, n, f, rfl, _⟩ := h
    rfl
  · obtain ⟨a, n, f, rfl, hT, k⟩ := h
    refine ⟨_, (pss_cons (ps_set (i := 2) sc_least_hindering.nd rfl (Or.inr rfl) (pe_op op_sub (pe_callB (cLen K) (by rfl) (n_len S) PySem.boot_len (pa_cons (pv 0) pa_nil)) pe_int))
      (pss_cons (ps_setLc (i := 3) (own := [("company", 4)]) rfl sc_least_hindering.nd rfl rfl (sw_true rfl rfl rfl (by decide +kernel)) (pi_range1 (by rfl) (n_range S) (pa_cons (pe_callB (cLen K) (by rfl) (n_len S) PySem.boot_len (pa_cons (pv 0) pa_nil)) pa_nil)) (blkOk_by (own := [("company", 4)]) (N := N_least_hindering) (sc := defScope s_least_hindering) (by decide +kernel)) (fun _ _ _ _ _ => (pg_name (i := 4) sc_least_hindering.nd rfl (Or.inl rfl))) (fun _ _ _ _ _ => pts_nil) (fun _ _ _ _ _ => (pe_not (pe_ix (ixL K) (pv 0) (pe_op op_sub (pv 2) (pv 4)) (fun _ _ => rfl)))))
      (pss_one (ps_ret (pe_h (ok_least_companies S) (hr.mono (by omega)) rfl (pa_cons (pv 3) (pa_cons (pv 1) pa_nil))))))), ?_⟩
    have hn := hT.1
    have h64 := pow64 hn
    have h0 := Nat.two_pow_pos n
    refine q_asg (v := .int ((2 ^ n - 1 : Nat) : Int)) (ev_is (ev_op (ev_len (ev_var rfl) hT.2) ev_c rv_I0) (by rw [tab_len]; exact congrArg V.int (by omega))) fun H1 e1 => ?_
    have hT1 := hT.ex e1
    refine q_asgL (xs := tab n (hindF n f)) (el_is (el_lcR1 (n := ((tab n f).length : Int)) (fun _ => true) (fun i => V.bl (hindF n f i)) (ea_cons (ev_len (ev_var rfl) hT1.2) ea_nil) (tab_rng hn) (fun _ => rfl) (fun i H2 e2 hi => et_yes) (fun i H2 e2 hi _ => ?_)) ?_) fun p H2 hp e2 h2 => ?_
    · rw [tab_len] at hi
      exact ev_notV (ev_may (hT1.ex e2) (c := 2 ^ n - 1 - i) (by omega) (ev_var rfl) (ev_is (ev_op (ev_var rfl) (ev_var rfl) rv_I0) (congrArg V.int (by omega))))
    · unfold given tab
      rw [filter_true, Int.toNat_natCast, List.length_map, List.length_range]
    · refine s_retL (el_h (ea_cons (ev_var rfl) (ea_cons (ev_var rfl) ea_nil)) fun H3 e3 Q E q => ⟨p, n, hindF n f, rfl, ⟨hn, ex_l e3 (sq_of h2)⟩, q⟩) fun q H3 hq e3 h3 => k q H3 (fresh_back (e1.trans e2) hq) ((e1.trans e2).trans e3) h3
end
end CK
/-! errors of our own over Exception, whose __init__ is a def: made, their fields stored, raised -/
namespace CK
open PySem PySem.Spec PyProof.Rows L2
/-- what the top says of such a class -/
structure XC (K : PySem.W.Frag) (C : Addr) : Prop where
  ov : PySem.W.excOver K C exTail = true
  rd : PySem.W.readsIn K C (.type "type") = true
  fi : PySem.W.findCls K (.ref C) (.type "type") "__init__" = some (.val (.ref (He.ma K C "__init__")))
  sp : PySem.W.specialIn K (.ref C) "__getattribute__" = some (some (.builtin "type.__getattribute__"))
  ki : PySem.W.keepIn K (.ref (He.ma K C "__init__")) = true
  inn : PySem.W.excInitIn K C exTail "Exception.__new__" = true
  sa : PySem.W.findIn K (.ref C) "__setattr__" = some (some (.builtin "object.__setattr__"))
  exC : PySem.W.subIn K (.ref C) (.type "BaseException") = some true
  tyC : PySem.W.typeIn K (.ref C) = some (.type "type")
  kC : PySem.W.keepIn K (.ref C) = true
  hd : PySem.W.hasDictIn K C = true
  ga : PySem.W.findIn K (.ref C) "__getattribute__" = some (some (.builtin "BaseException.__getattribute__"))
  gg : PySem.W.findIn K (.ref C) "__getattr__" = some none
  ii : PySem.W.findIn K (.ref C) "__init__" = some (some (.ref (He.ma K C "__init__")))
  ti : PySem.W.typeIn K (.ref (He.ma K C "__init__")) = some (.type "function")
theorem XC.xf {K : PySem.W.Frag} {C : Addr} (T : XC K C) : XfC K C := ⟨T.ga, T.gg, T.exC, T.hd⟩
theorem xc_of {K : PySem.W.Frag} {x : Str} (h : excB K x = true) : XC K (He.ga K x) := by
  unfold excB at h
  simp only [Bool.and_eq_true, decide_eq_true_eq] at h
  obtain ⟨h1, h2, h3, h4, h5, h6, h7, h8, h9, h10, h11, h12, h13, h14, h15⟩ := h
  refine ⟨h1, h2, ?_, He.eqO_ok h4, h5, h6, He.eqO_ok h7, h8, h9, h10, h11, He.eqO_ok h12, He.eqO_ok h13, He.eqO_ok h14, h15⟩
  unfold initB at h3
  split at h3
  · rename_i f e
    rw [e, of_decide_eq_true h3]
  · cases h3
/-! ### self.name = v on such an error -/
section
open PySem.W Builtin Builtin.ObjectAttr
variable {prog : Program} {w : World} {A : Around} {R : Result → Shared → Prop} {hp : Heap} {g : Array GenState} {d : Drawn} {t : Nat} {os : OsState} {K : Frag} {name : Str} {tk : Tok} {v : Value} {x C dx : Addr} {fv : Array Value}
theorem store_new (T : XC K C) (X : K.In hp) (hx : hp.get? x = some { cls := .ref C, data := .fields fv }) (ha : findIn K (.ref C) name = some none)
    (hq : ∀ h' tk' dx, (∀ b o, b ≠ x → hp.get? b = some o → h'.get? b = some o) → hp.objs.size ≤ dx → dx ≠ x → h'.get? x = some { cls := .ref C, dict := some dx, data := .fields fv } →
      h'.Ns1 dx (fun y => if y = name then some v else none) → R (.ok (.ret .none)) ⟨h', g, d, tk', os⟩) :
    codeAny (model prog w) A (.call (.builtin "object.__setattr__") ⟨[.ref x, .str name tk, v], []⟩) R ⟨hp, g, d, t, os⟩ := by
  have I : InstAt hp x { cls := .ref C, data := .fields fv } C none := ⟨hx, rfl, rfl, trivial⟩
  have hxs : x ≠ hp.objs.size := Nat.ne_of_lt (Heap.lt_size hx)
  obtain ⟨cd, hc, hh⟩ := any_some T.hd
  refine osa_openX (s := ⟨hp, g, d, t, os⟩) (r := none) PySem.F.store_Exception X I T.ov (NoAttr.taker ha) fun b => ?_
  have hcls : Looks (model prog w) hp (classData C) cd := looks_clsIn X hc
  obtain ⟨nm, bs, mro, ns, qn, hd, sn, sb, ab, col, del⟩ := cd
  dsimp only at hh
  subst hh
  dsimp only
  unfold storeInOwnDict ownDictForStores
  repeat (first | with_reducible refine HandSPX.store_in_new ?_ ?_ | with_reducible refine wpAny_loadPart_at hx ?_ | with_reducible refine hcls.at ?_ | wp_step)
  · exact ⟨_, #[], _, (Heap.get?_update_ne _ _ _ _ hxs.symm).trans (Heap.get?_push_at rfl rfl), rfl, fun e he => absurd he (by simp), fun _ => rfl⟩
  · intro h' tk' hn' hs
    have hx1 : (hp.push { cls := .type "dict", data := .dict #[] }).get? x = some { cls := .ref C, data := .fields fv } := Heap.get?_push_of_some _ hx
    refine hq h' tk' hp.objs.size (fun b o hb ho => ?_) (Nat.le_refl _) hxs.symm ?_ hn'
    · exact (hs.2 b (Nat.ne_of_lt (Heap.lt_size ho))).trans ((Heap.get?_update_ne _ _ _ _ hb).trans (Heap.get?_push_of_some _ ho))
    · exact (hs.2 x hxs).trans (Heap.get?_update_self _ hx1 rfl)
theorem store_old (T : XC K C) {m0 : Str → Option Value} {nl : List Str} (X : K.In hp) (hx : hp.get? x = some { cls := .ref C, dict := some dx, data := .fields fv }) (hns : hp.Ns1 dx m0) (hw : Within m0 nl) (hz : nl.length ≤ 1000)
    (ha : findIn K (.ref C) name = some none)
    (hq : ∀ h' tk', (∀ b o, b ≠ dx → hp.get? b = some o → h'.get? b = some o) → h'.Ns1 dx (fun y => if y = name then some v else m0 y) → R (.ok (.ret .none)) ⟨h', g, d, tk', os⟩) :
    codeAny (model prog w) A (.call (.builtin "object.__setattr__") ⟨[.ref x, .str name tk, v], []⟩) R ⟨hp, g, d, t, os⟩ := by
  obtain ⟨oD, esD, epD, hoD, hdD, _⟩ := hns.count hw
  have I : InstAt hp x { cls := .ref C, dict := some dx, data := .fields fv } C (some oD) := ⟨hx, rfl, rfl, hoD⟩
  obtain ⟨cd, hc, hh⟩ := any_some T.hd
  refine osa_openX (s := ⟨hp, g, d, t, os⟩) (r := none) PySem.F.store_Exception X I T.ov (NoAttr.taker ha) fun b => ?_
  have hcls : Looks (model prog w) hp (classData C) cd := looks_clsIn X hc
  obtain ⟨nm, bs, mro, ns, qn, hd, sn, sb, ab, col, del⟩ := cd
  dsimp only at hh
  subst hh
  dsimp only
  unfold storeInOwnDict ownDictForStores
  repeat (first | with_reducible refine PySem.OEX.store_in_old hns hw hz ?_ | with_reducible refine wpAny_loadPart_at hx ?_ | with_reducible refine hcls.at ?_ | wp_step)
  intro h' tk' hn' hs
  exact hq h' tk' (fun b o hb ho => (hs.2 b hb).trans ho) hn'
end
/-! ### the same over the layer's heap -/
section
variable {X : Cx} {pins : List (Addr × Obj)} {σ : L2.St} {H : Hp} {s : Shared} {a C dx : Addr} {f : Str} {y : V} {u : Value} {fs : List (Str × V)} {Q : Unit → Shared → Prop} {E : Value → Shared → Prop} {A : Around}
theorem put_new (T : XC X.K C) (I : Inv X pins σ H s) (ea : H a = some (exo a C none)) (no : PySem.W.findIn X.K (.ref C) f = some none) (ry : RelV y u)
    (k : ∀ dx s', H dx = none → dx ≠ a → Inv X pins σ (upd (upd H dx (exd dx [(f, y)])) a (exo a C (some dx))) s' → Q () s') : wpAny (model X.prog X.w) A (setAttr (.ref a) f u) Q E s := by
  obtain ⟨t1, ho⟩ := exo_at I.hok ea
  obtain ⟨hp, g, d, t, os⟩ := s
  have J : PySem.W.InstAt hp a { cls := .ref C, dict := none, data := .fields #[.ref t1, .none, .none, .none, .bool false, .none] } C none := ⟨ho, rfl, rfl, trivial⟩
  refine PySem.W.set_plain I.kIn J T.sa (store_new T I.kIn ho no fun h' tk' dx kp fresh ne at1 ns1 => ?_)
  have nd : H dx = none := I.hok.fresh fresh
  have old : ∀ {b : Addr} {o : Obj}, hp.get? b = some o → b ≠ dx := fun z => Nat.ne_of_lt (Nat.lt_of_lt_of_le (Heap.lt_size z) fresh)
  have una : ∀ {b : Addr}, H b = none → b ≠ a := fun n z => by rw [z, ea] at n; cases n
  have U : Un X.fs [] H (upd (upd H dx (exd dx [(f, y)])) a (exo a C (some dx))) hp h' :=
    ⟨fun b o z n _ _ => kp b o (una n) z, fun b o z n _ _ => ⟨o.slots, kp b o (una n) z⟩, fun b o z n _ => by rw [upd_ne (una n), upd_ne (old z), n],
      fun b o z _ => (Decidable.em (b = a)).elim (fun q => ⟨_, q ▸ at1⟩) fun q => ⟨o, kp b o q z⟩,
      fun b xs z => by rw [upd_ne (at_ne ea z exo_tup), upd_ne (ne_of_none z nd), z], fun b o v z => by rw [upd_ne (at_ne ea z exo_frz), upd_ne (ne_of_none z nd), z],
      fun b ps z => ⟨#[], by rw [upd_ne (at_ne ea z exo_tbl), upd_ne (ne_of_none z nd), z]; simp⟩⟩
  refine k dx _ nd ne (I.un (t' := tk') U fun b o z => ?_)
  by_cases q : b = a
  · subst q
    rw [upd_same] at z
    cases z
    exact exo_ok at1
  rw [upd_ne q] at z
  by_cases q2 : b = dx
  · subst q2
    rw [upd_same] at z
    cases z
    exact exd_ok ns1 (relO_put (fs := []) ry fun _ => True.intro)
  rw [upd_ne q2] at z
  exact (I.hok b o z).stay (fun c v hc r => kp c v (hc.elim (fun e => e ▸ q) fun e => at_ne ea e exo_own) r)
    (fun c hc => by rw [upd_ne (at_ne ea hc exo_own), upd_ne (ne_of_none hc nd), hc]) fun c xs hc => by rw [upd_ne (at_ne ea hc exo_tup), upd_ne (ne_of_none hc nd), hc]
theorem put_old (T : XC X.K C) (I : Inv X pins σ H s) (ea : H a = some (exo a C (some dx))) (ed : H dx = some (exd dx fs)) (hl : fs.length ≤ 900) (no : PySem.W.findIn X.K (.ref C) f = some none) (ry : RelV y u)
    (k : ∀ s', Inv X pins σ (upd H dx (exd dx ((f, y) :: fs))) s' → Q () s') : wpAny (model X.prog X.w) A (setAttr (.ref a) f u) Q E s := by
  obtain ⟨t1, ho⟩ := exo_at I.hok ea
  obtain ⟨mA, ns0, rel⟩ := exd_at I.hok ed
  have wi := within_of rel
  obtain ⟨hp, g, d, t, os⟩ := s
  obtain ⟨oD, _, _, hoD, _, _⟩ := ns0.count wi
  have J : PySem.W.InstAt hp a { cls := .ref C, dict := some dx, data := .fields #[.ref t1, .none, .none, .none, .bool false, .none] } C (some oD) := ⟨ho, rfl, rfl, hoD⟩
  refine PySem.W.set_plain I.kIn J T.sa (store_old T I.kIn ho ns0 wi (by rw [List.length_map]; omega) no fun h' tk' kp ns1 => ?_)
  have there : ∃ o, h'.get? dx = some o := by obtain ⟨o, _, _, z, _⟩ := ns1; exact ⟨o, z⟩
  exact k _ (I.write (t' := tk') (x := dx) (e := dx) (o := exd dx ((f, y) :: fs)) (by rw [ed]; trivial) (.inl rfl) kp there (exd_ok ns1 (relO_put ry rel)))
/-- Exception.__init__(self, ..) -/
theorem base_init {us : List Value} {Q : Value → Shared → Prop} (T : XC X.K C) (I : Inv X pins σ H s) (ea : H a = some (exo a C none)) (hl : us.length ≤ sizeLine) (k : ∀ s', Inv X pins σ H s' → Q .none s') :
    wpAny (model X.prog X.w) A (call (.builtin "Exception.__init__") (.ref a :: us)) Q E s := by
  obtain ⟨nm, N, qn, bs, bm, hdct, sn, sub, ab, col, dd, k0, k1, k2, k3, k5, hC, hT⟩ := PySem.W.excInit_of I.kIn T.inn
  obtain ⟨t1, ho⟩ := exo_at I.hok ea
  obtain ⟨hp, g, d, t, os⟩ := s
  refine wpAny_call (PySem.HandSPX.init_base PySem.F.excBase_Exception hT hC ho hl fun h' t2 kp at1 => ?_)
  have J := I.write (t' := t) (x := a) (e := a) (o := exo a C none) (by rw [ea]; trivial) (.inl rfl) kp ⟨_, at1⟩ (exo_ok at1)
  have same : upd H a (exo a C none) = H := funext fun b => by
    by_cases q : b = a
    · rw [q, upd_same, ea]
    · rw [upd_ne q]
  rw [same] at J
  exact k _ J
end
/-! ### readings, rules -/
def tBaseI (K : PySem.W.Frag) (ta : TA) : TE := fun σ H Q => ta σ H fun vs H1 => ∃ (a C : Addr) (ws : List V), vs = .ref a :: ws ∧ ws.length ≤ 1000 ∧ XC K C ∧ H1 a = some (exo a C none) ∧ Q .non H1
def tPut (K : PySem.W.Frag) (f : Str) (to te : TE) : TS := fun D σ H => te σ H fun y H1 => to σ H1 fun x H2 => ∃ a C : Addr, x = .ref a ∧ XC K C ∧ PySem.W.findIn K (.ref C) f = some none ∧
  ((H2 a = some (exo a C none) ∧ ∀ dx, H2 dx = none → dx ≠ a → D.nx σ (upd (upd H2 dx (exd dx [(f, y)])) a (exo a C (some dx)))) ∨
    ∃ (dx : Addr) (fs : List (Str × V)), H2 a = some (exo a C (some dx)) ∧ H2 dx = some (exd dx fs) ∧ fs.length ≤ 900 ∧ D.nx σ (upd H2 dx (exd dx ((f, y) :: fs))))
/-- C(e, ..): what __init__ promises of the new error; it is let go with its dict -/
def tErr (C : Addr) (sp : Sp) (ta : TA) : L2.St → Hp → XK → Prop := fun σ H Q => ta σ H fun vs H1 => vs.length ≤ 1000 ∧ ∀ a, H1 a = none → sp (.ref a :: vs) (upd H1 a (exo a C none))
  (fun v H2 => v = .non ∧ ∃ (d : Addr) (fs : List (Str × V)), H2 a = some (exo a C (some d)) ∧ H2 d = some (exd d fs) ∧ H1 d = none ∧ Q (.ref C) (some d) (upd (del H2 a) d (.xd fs))) (fun _ _ _ => False)
theorem typ_E : typeOf (.type "Exception") = pure (.type "type") := by kernel_rfl
section
variable {X : Cx} {o e : Expr} {es : List Expr} {to te : TE} {ta : TA} {f : Str} {p p' p1 p2 pos : Pos}
theorem pe_baseI (K : PySem.W.Frag) {pl : Sem Bool} (hg : Gl X "Exception") (hm : X.mg "Exception" = none) (vV : PySem.W.findCls X.K (.type "Exception") (.type "type") "__init__" = some (.val (.builtin "Exception.__init__"))) (ha : PA X (e :: es) ta)
    (hc : eval (.Call (.Attribute (.Name "Exception" p1) "__init__" p2) (e :: es) [] pos) X.env = (do
      let ov ← eval (.Name "Exception" p1) X.env
      standAt p2.atName
      let (f, first) ← holding [ov] (getMethod ov "__init__" pl)
      callWith pos f first (backTo pos (starEach (e :: es) X.env)) (backToKw pos (keywordEach [] X.env))) := by rfl)
    (he : starEach (e :: es) X.env = (false, eval e X.env) :: starEach es X.env := by rfl) (hpl : (backTo pos (starEach es X.env)).any (·.1) = false := by rfl) (hK : X.K = K := by rfl) :
    PE X (.Call (.Attribute (.Name "Exception" p1) "__init__" p2) (e :: es) [] pos) (tBaseI K ta) := by
  subst hK
  refine ⟨fun pins s σ H Q I h => PySem.W.methodCall_KW (ld_blt I hg hm PyProof.Rows.Boot.«Exception» ?_ (by decide) (by decide)) hc⟩
  obtain ⟨m, fr⟩ := I.fr
  refine PySem.W.method_type fr I.ok.mod.kin typ_E (by decide +kernel) vV (by decide +kernel) ?_
  show wpAny _ _ (callWith pos (Value.builtin "Exception.__init__") [] (backTo pos (starEach (e :: es) X.env)) []) _ _ _
  refine PyProof.Rows.callWith_method1 (thn (ha.run pos pins _ σ H _ (I.tok _) h) fun us s1 z => ?_) he hpl
  obtain ⟨vs, H1, I1, r1, a, C, ws, ev, hl, T, ea, q⟩ := z
  subst ev
  cases r1 with
  | @cons _ u0 _ ur ra rs =>
    obtain rfl : u0 = Value.ref a := ra
    exact base_init T I1 ea (by rw [← Paired.length rs, sizeLine_eq]; omega) fun s' J => ⟨.non, H1, J, rfl, q⟩
theorem ps_put (K : PySem.W.Frag) (ho : PE X o to) (he : PE X e te) (hs : swapsWith e (some (.Attribute o f p')) pos.line X.env = pure false := by rfl) (hK : X.K = K := by rfl) : PS X (.Assign [.Attribute o f p'] e pos) (tPut K f to te) := by
  subst hK
  refine ⟨fun pins s σ H D I h => plainObj_wpAny_Assign_Attribute (thn (he.run pins s σ H _ I h) fun v s1 z => ?_) hs⟩
  obtain ⟨y, H1, I1, r1, q1⟩ := z
  refine thn (ho.run pins s1 σ H1 _ I1 q1) fun u s2 z => ?_
  obtain ⟨x, H2, I2, r2, a, C, ex, T, no, q⟩ := z
  subst ex
  obtain rfl : u = Value.ref a := r2
  rcases q with ⟨ea, q⟩ | ⟨dx, fs, ea, ed, hl, q⟩
  · exact put_new T I2 ea no r1 fun dx s' n ne J => ⟨σ, _, J, q dx n ne⟩
  · exact put_old T I2 ea ed hl no r1 fun s' J => ⟨σ, _, J, q⟩
/-- C.__init__(self, ..), C a class of our own -/
theorem pe_init {x : Str} {C : Addr} {pl : Sem Bool} {k : Nat} {fd : FuncData} {ps : List Str} {sp : Sp} (T : XC X.K C) (hg : Gl X x) (hm : X.mg x = some (.ref C)) (F : FnOk X.prog X.w X.K X.mg X.base CX0 k (He.ma X.K C "__init__") fd ps sp) (hr : Room k X.A) (hb : Binds X.K fd ps [])
    (ha : PA X (e :: es) ta) (hd : (x == ("__debug__" : Str)) = false := by decide)
    (hc : eval (.Call (.Attribute (.Name x p1) "__init__" p2) (e :: es) [] pos) X.env = (do
      let ov ← eval (.Name x p1) X.env
      standAt p2.atName
      let (f, first) ← holding [ov] (getMethod ov "__init__" pl)
      callWith pos f first (backTo pos (starEach (e :: es) X.env)) (backToKw pos (keywordEach [] X.env))) := by rfl)
    (he : starEach (e :: es) X.env = (false, eval e X.env) :: starEach es X.env := by rfl) (hpl : (backTo pos (starEach es X.env)).any (·.1) = false := by rfl) :
    PE X (.Call (.Attribute (.Name x p1) "__init__" p2) (e :: es) [] pos) (tCall sp [] E0 ta) := by
  refine ⟨fun pins s σ H Q I h => PySem.W.methodCall_KW (ld_glob I hg hm ?_ hd) hc⟩
  refine PySem.W.method_cls I.kIn T.sp (PySem.W.cls_value I.kIn T.rd T.fi rfl ?_)
  refine PySem.W.callWith_K (first := []) (h₀ := X.base) I.ok.mod.kin T.ki (thn (ha.run pos pins _ σ H _ (I.tok _) h) fun us s1 z => ?_) he hpl
  obtain ⟨vs, H1, I1, r1, q⟩ := z
  exact ⟨I1.kIn, run_fn F hr hb .nil pass0 I1 r1 q⟩
theorem run_err {CX : CXT} {C : Addr} {k : Nat} {fd : FuncData} {ps : List Str} {sp : Sp} {pins : List (Addr × Obj)} {σ : L2.St} {H1 : Hp} {s1 : Shared} {Q : XK} {vs : List V} {us : List Value} (T : XC X.K C)
    (F1 : FnOk X.prog X.w X.K X.mg X.base CX k (He.ma X.K C "__init__") fd ps sp) (hr : Room (k + 1) X.A) (hb : Binds X.K fd ps []) (hx : Passes CX X (fun _ _ _ => False)) (I1 : Inv X pins σ H1 s1) (r1 : Vals vs us) (hz : vs.length ≤ 1000)
    (q1 : ∀ a, H1 a = none → sp (.ref a :: vs) (upd H1 a (exo a C none)) (fun v H2 => v = .non ∧ ∃ (d : Addr) (fs : List (Str × V)), H2 a = some (exo a C (some d)) ∧ H2 d = some (exd d fs) ∧ H1 d = none ∧ Q (.ref C) (some d) (upd (del H2 a) d (.xd fs))) (fun _ _ _ => False)) :
    wpAny (model X.prog X.w) X.A (call (.ref C) us) (MkP X pins σ Q) X.xe s1 := by
  obtain ⟨nm, N, qn, bs, bm, hdct, sn, sub, ab, col, dd, k0, k1, k2, k3, k5, hC, hT⟩ := PySem.W.excInit_of I1.kIn T.inn
  obtain ⟨hp, g, dr, tk, os⟩ := s1
  have up : hp.objs.size ≤ hp.objs.size + 1 := Nat.le_succ _
  have keep : ∀ b o, hp.get? b = some o → ((hp.push (PySem.W.kdv_tup us)).push (PySem.HandSPX.excO C hp.objs.size)).get? b = some o := fun b o z => Heap.get?_push_of_some _ (Heap.get?_push_of_some _ z)
  have got : ((hp.push (PySem.W.kdv_tup us)).push (PySem.HandSPX.excO C hp.objs.size)).get? (hp.objs.size + 1) = some (PySem.HandSPX.excO C hp.objs.size) := by heap_get
  have I2 := I1.laid (t' := tk) (a := hp.objs.size + 1) (o := exo (hp.objs.size + 1) C none) keep up (exo_ok got)
  have hq := q1 (hp.objs.size + 1) (I1.hok.fresh up)
  have r2 : Vals (V.ref (hp.objs.size + 1) :: vs) (Value.ref (hp.objs.size + 1) :: us) := .cons rfl r1
  have hl : (Value.ref (hp.objs.size + 1) :: us).length = ps.length := r2.length.symm.trans (F1.len _ _ _ _ hq)
  have hus : us.length ≤ sizeLine := by rw [← Paired.length r1, sizeLine_eq]; omega
  have bd := hb _ (Value.ref (hp.objs.size + 1) :: us) I2.kIn (by rw [List.append_nil]; exact hl)
  rw [List.append_nil] at bd
  refine wpAny_call (PySem.HandSPX.call_own PySem.F.excBase_Exception hT hC (PySem.W.looks_findIn I1.kIn T.ii) (fun self => PySem.W.bind_fn I1.kIn self T.ti) hus (codeAny_mono (F1.run _ X.stack _ _ ⟨Value.ref (hp.objs.size + 1) :: us, []⟩ _ _ _ (fun _ _ _ => False) (hr.make C us []) (I2.env0.make C us []) bd r2 hq) fun r s' z => ?_))
  cases r with
  | error er => exact hx pins σ _ _ er s' I2 z
  | ok fl => cases fl with
    | ret u =>
      obtain ⟨v, H2, os2, bare2, un2, hok2, rv, ev, d, fs, ea, ed, hd1, q2⟩ := z
      subst ev
      obtain ⟨h2, g2, d2, t2, os'⟩ := s'
      exact ⟨rv, mk_end (raises_own T.exC T.tyC) I1 up keep un2 hok2 os2 bare2 ea ed hd1 q2⟩
    | _ => exact z.elim
/-- an error's class by its name -/
structure HasE (P : Program) (w : World) (K : PySem.W.Frag) (mg : Str → Option Value) (base : Heap) (x : Str) (k : Nat) (ps : List Str) (sp : Sp) : Prop where
  m : mg x = some (.ref (He.ga K x))
  c : XC K (He.ga K x)
  fn : ∃ fd, Binds K fd ps [] ∧ FnOk P w K mg base CX0 k (He.ma K (He.ga K x) "__init__") fd ps sp
theorem pmk_x (K : PySem.W.Frag) {x : Str} {k : Nat} {ps : List Str} {sp : Sp} (F : HasE X.prog X.w X.K X.mg X.base x k ps sp) (hr : Room (k + 1) X.A) (hg : Gl X x) (ha : PA X (e :: es) ta)
    (hdb : (x == ("__debug__" : Str)) = false := by decide) (he : starEach (e :: es) X.env = (false, eval e X.env) :: starEach es X.env := by rfl) (hpl : (backTo pos (starEach es X.env)).any (·.1) = false := by rfl) (hK : X.K = K := by rfl) :
    PMk X (.Call (.Name x p) (e :: es) [] pos) (tErr (He.ga K x) sp ta) := by
  subst hK
  obtain ⟨fd, b, f⟩ := F.fn
  intro pins s σ H Q I h
  refine wpAny_Call_Name_kw (ld_glob I hg F.m ?_ hdb)
  refine PySem.W.callWith_K (h₀ := X.base) I.ok.mod.kin F.c.kC (thn (ha.run pos pins s σ H _ I h) fun us s1 z => ?_) he hpl
  obtain ⟨vs, H1, I1, r1, hz, q1⟩ := z
  exact ⟨I1.kIn, run_err F.c f hr b pass0 I1 r1 hz q1⟩
theorem pmk_x0 (K : PySem.W.Frag) {x : Str} {k : Nat} {ps : List Str} {sp : Sp} (F : HasE X.prog X.w X.K X.mg X.base x k ps sp) (hr : Room (k + 1) X.A) (hg : Gl X x)
    (hdb : (x == ("__debug__" : Str)) = false := by decide) (hK : X.K = K := by rfl) : PMk X (.Call (.Name x p) [] [] pos) (tErr (He.ga K x) sp tNil) := by
  subst hK
  obtain ⟨fd, b, f⟩ := F.fn
  intro pins s σ H Q I h
  refine wpAny_Call_Name_kw (ld_glob I hg F.m ?_ hdb)
  exact PySem.W.callWith_K0 I.kIn F.c.kC (run_err (us := []) F.c f hr b pass0 I .nil h.1 h.2)
end
section
variable {P : Program} {w : World} {K : PySem.W.Frag} {mg : Str → Option Value} {base : Heap}
theorem hasE_of {x q : Str} {st : Stmt} {N ps : List Str} {k : Nat} {sp : Sp} (m : mg x = some (.ref (He.ga K x))) (c : XC K (He.ga K x))
    (D : ∃ fd, FunD K "__init__" q (defArgs st) (defBody st) (defScope st) [] [] (He.ma K (He.ga K x) "__init__") fd) (S : FnScope N ps (defScope st)) (B : Bi st "__init__" q ps)
    (len : ∀ vs H Q E, sp vs H Q E → vs.length = ps.length)
    (body : ∀ (cdv : Value) (A : Around) (outer : List Env) (s : Shared) (H : Hp) (vs : List V) (Q : VK) (E : XK), Room k (A.deeper (envOfC q (defScope st) s.heap.objs.size (He.ma K (He.ga K x) "__init__") cdv)) → sp vs H Q E →
      ∃ t, PSs (cxOf CX0 P w K mg base N q (defScope st) (He.ma K (He.ga K x) "__init__") cdv A outer s H E).nox (defBody st) t ∧ t { nx := fun _ H' => Q .non H', rt := Q } (start N vs) H) : HasE P w K mg base x (k + 1) ps sp := by
  obtain ⟨fd, F⟩ := D
  refine ⟨m, c, fd, F.bindsN B, F.ok S len fun cdv A outer s H vs Q E hr h => ?_⟩
  obtain ⟨t, h1, h2⟩ := body cdv A outer s H vs Q E hr h
  exact ⟨t, h1.nox, h2⟩
theorem Top.xc (S : Top K mg) (i : Nat) {x : Str} {as : List Str} (h : excList[i]? = some (x, as)) : XC K (He.ga K x) ∧ ∀ a ∈ as, PySem.W.findIn K (.ref (He.ga K x)) a = some none := by
  have h1 := S.p1.2.2.2.1
  unfold excsB at h1
  rw [Bool.and_eq_true] at h1
  have h2 := List.all_eq_true.mp h1.2 _ (List.mem_of_getElem? h)
  rw [Bool.and_eq_true] at h2
  exact ⟨xc_of h2.1, fun a ha => He.eqO_ok (List.all_eq_true.mp h2.2 a ha)⟩
theorem Top.exIn (S : Top K mg) : PySem.W.findCls K (.type "Exception") (.type "type") "__init__" = some (.val (.builtin "Exception.__init__")) := by
  have h1 := S.p1.2.2.2.1
  unfold excsB at h1
  rw [Bool.and_eq_true] at h1
  have h3 := h1.1
  unfold excInitB at h3
  split at h3
  · rename_i f e
    rw [e, of_decide_eq_true h3]
  · cases h3
theorem Top.exm (S : Top K mg) (i : Nat) {x y : Str} {b : Bool} (h : exmList[i]? = some (x, y, b)) : PySem.W.exmOne K (.ref (He.ga K x)) (.ref (He.ga K y)) = some b := by
  have h1 := S.p1.2.2.2.2
  unfold exmsB at h1
  exact of_decide_eq_true (List.all_eq_true.mp h1 _ (List.mem_of_getElem? h))
end
end CK
/-! refusals.py -/
namespace CK
open PySem PySem.Spec PyProof.Rows L2 Evl
theorem pe_initE {X : Cx} {x : Str} {k : Nat} {ps : List Str} {sp : Sp} {pl : Sem Bool} {e : Expr} {es : List Expr} {ta : TA} {p1 p2 pos : Pos} (F : HasE X.prog X.w X.K X.mg X.base x k ps sp) (hr : Room k X.A) (hg : Gl X x) (ha : PA X (e :: es) ta) (hd : (x == ("__debug__" : Str)) = false := by decide)
    (hc : eval (.Call (.Attribute (.Name x p1) "__init__" p2) (e :: es) [] pos) X.env = (do
      let ov ← eval (.Name x p1) X.env
      standAt p2.atName
      let (f, first) ← holding [ov] (getMethod ov "__init__" pl)
      callWith pos f first (backTo pos (starEach (e :: es) X.env)) (backToKw pos (keywordEach [] X.env))) := by rfl)
    (he : starEach (e :: es) X.env = (false, eval e X.env) :: starEach es X.env := by rfl) (hpl : (backTo pos (starEach es X.env)).any (·.1) = false := by rfl) :
    PE X (.Call (.Attribute (.Name x p1) "__init__" p2) (e :: es) [] pos) (tCall sp [] E0 ta) := by
  obtain ⟨fd, b, f⟩ := F.fn
  exact pe_init F.c hg F.m f hr b ha hd hc he hpl
section
variable {P : Program} {w : World} {K : PySem.W.Frag} {mg : Str → Option Value} {base : Heap}
/-- an error is raised: its class, its own dict with these fields; all that was tracked stands -/
def Raised (K : PySem.W.Frag) (x : Str) (fs : List (Str × V)) (H : Hp) (E : XK) : Prop := ∀ d H', H d = none → Ex H H' → H' d = some (.xd fs) → E (.ref (He.ga K x)) (some d) H'
theorem Raised.mono {x : Str} {fs : List (Str × V)} {H H1 : Hp} {E : XK} (r : Raised K x fs H E) (e : Ex H H1) : Raised K x fs H1 E := fun d H' h1 h2 h3 => r d H' (fresh_back e h1) (e.trans h2) h3
def sp_Refusal (K : PySem.W.Frag) : Sp := fun vs H Q _ => ∃ (a C : Addr) (n : Int), vs = [.ref a, .int n] ∧ XC K C ∧ PySem.W.findIn K (.ref C) "number" = some none ∧ H a = some (exo a C none) ∧
  ∀ d, H d = none → d ≠ a → Q .non (upd (upd H d (exd d [("number", .int n)])) a (exo a C (some d)))
theorem ok_Refusal (S : Top K mg) : HasE P w K mg base "Refusal" 1 P_Refusal_init (sp_Refusal K) := by
  refine hasE_of (g_Refusal S) (S.xc 0 rfl).1 (fn_Refusal_init S) sc_Refusal_init bi_Refusal_init (fun vs H Q E h => ?_) (fun cdv A outer s H vs Q E hr h => ?_)
  · obtain ⟨a, C, n, rfl, _⟩ := h
    rfl
  · obtain ⟨a, C, n, rfl, hC, no, ha, k⟩ := h
    refine ⟨_, (pss_cons (ps_expr (pe_baseI K rfl (n_Exception S) S.exIn (pa_cons (pv 0) (pa_cons (pv 1) pa_nil)))) (pss_one (ps_put K (pv 0) (pv 1)))), ?_⟩
    refine ⟨_, rfl, _, rfl, a, C, [.int n], rfl, (by simp), hC, ha, ?_⟩
    exact ⟨_, rfl, _, rfl, a, C, rfl, hC, no, .inl ⟨ha, k⟩⟩
/-- a refusal that takes nothing -/
def sp_Ref0 (K : PySem.W.Frag) (x : Str) (n : Int) : Sp := fun vs H Q _ => ∃ a : Addr, vs = [.ref a] ∧ H a = some (exo a (He.ga K x) none) ∧
  ∀ d, H d = none → d ≠ a → Q .non (upd (upd H d (exd d [("number", .int n)])) a (exo a (He.ga K x) (some d)))
theorem ok_NoCall (S : Top K mg) : HasE P w K mg base "NoCall" 2 P_NoCall_init (sp_Ref0 K "NoCall" (-100)) := by
  obtain ⟨c, no⟩ := S.xc 1 rfl
  refine hasE_of (g_NoCall S) c (fn_NoCall_init S) sc_NoCall_init bi_NoCall_init (fun vs H Q E h => ?_) (fun cdv A outer s H vs Q E hr h => ?_)
  · obtain ⟨a, rfl, _⟩ := h
    rfl
  · obtain ⟨a, rfl, ha, k⟩ := h
    refine ⟨_, (pss_one (ps_expr (pe_initE (ok_Refusal S) hr rfl (pa_cons (pv 0) (pa_cons (pe_un un_neg pe_int) pa_nil))))), ?_⟩
    exact ⟨_, rfl, _, rfl, a, _, -100, rfl, c, no _ (by simp), ha, k⟩
theorem ok_WrongBytes (S : Top K mg) : HasE P w K mg base "WrongBytes" 2 P_WrongBytes_init (sp_Ref0 K "WrongBytes" (-1)) := by
  obtain ⟨c, no⟩ := S.xc 2 rfl
  refine hasE_of (g_WrongBytes S) c (fn_WrongBytes_init S) sc_WrongBytes_init bi_WrongBytes_init (fun vs H Q E h => ?_) (fun cdv A outer s H vs Q E hr h => ?_)
  · obtain ⟨a, rfl, _⟩ := h
    rfl
  · obtain ⟨a, rfl, ha, k⟩ := h
    refine ⟨_, (pss_one (ps_expr (pe_initE (ok_Refusal S) hr rfl (pa_cons (pv 0) (pa_cons (pe_un un_neg pe_int) pa_nil))))), ?_⟩
    exact ⟨_, rfl, _, rfl, a, _, -1, rfl, c, no _ (by simp), ha, k⟩
theorem ok_OutOfRange (S : Top K mg) : HasE P w K mg base "OutOfRange" 2 P_OutOfRange_init (sp_Ref0 K "OutOfRange" (-3)) := by
  obtain ⟨c, no⟩ := S.xc 3 rfl
  refine hasE_of (g_OutOfRange S) c (fn_OutOfRange_init S) sc_OutOfRange_init bi_OutOfRange_init (fun vs H Q E h => ?_) (fun cdv A outer s H vs Q E hr h => ?_)
  · obtain ⟨a, rfl, _⟩ := h
    rfl
  · obtain ⟨a, rfl, ha, k⟩ := h
    refine ⟨_, (pss_one (ps_expr (pe_initE (ok_Refusal S) hr rfl (pa_cons (pv 0) (pa_cons (pe_un un_neg pe_int) pa_nil))))), ?_⟩
    exact ⟨_, rfl, _, rfl, a, _, -3, rfl, c, no _ (by simp), ha, k⟩
theorem ok_WrongList (S : Top K mg) : HasE P w K mg base "WrongList" 2 P_WrongList_init (sp_Ref0 K "WrongList" (-4)) := by
  obtain ⟨c, no⟩ := S.xc 4 rfl
  refine hasE_of (g_WrongList S) c (fn_WrongList_init S) sc_WrongList_init bi_WrongList_init (fun vs H Q E h => ?_) (fun cdv A outer s H vs Q E hr h => ?_)
  · obtain ⟨a, rfl, _⟩ := h
    rfl
  · obtain ⟨a, rfl, ha, k⟩ := h
    refine ⟨_, (pss_one (ps_expr (pe_initE (ok_Refusal S) hr rfl (pa_cons (pv 0) (pa_cons (pe_un un_neg pe_int) pa_nil))))), ?_⟩
    exact ⟨_, rfl, _, rfl, a, _, -4, rfl, c, no _ (by simp), ha, k⟩
theorem ok_NotThere (S : Top K mg) : HasE P w K mg base "NotThere" 2 P_NotThere_init (sp_Ref0 K "NotThere" (-5)) := by
  obtain ⟨c, no⟩ := S.xc 5 rfl
  refine hasE_of (g_NotThere S) c (fn_NotThere_init S) sc_NotThere_init bi_NotThere_init (fun vs H Q E h => ?_) (fun cdv A outer s H vs Q E hr h => ?_)
  · obtain ⟨a, rfl, _⟩ := h
    rfl
  · obtain ⟨a, rfl, ha, k⟩ := h
    refine ⟨_, (pss_one (ps_expr (pe_initE (ok_Refusal S) hr rfl (pa_cons (pv 0) (pa_cons (pe_un un_neg pe_int) pa_nil))))), ?_⟩
    exact ⟨_, rfl, _, rfl, a, _, -5, rfl, c, no _ (by simp), ha, k⟩
theorem ok_HasEvents (S : Top K mg) : HasE P w K mg base "HasEvents" 2 P_HasEvents_init (sp_Ref0 K "HasEvents" (-6)) := by
  obtain ⟨c, no⟩ := S.xc 6 rfl
  refine hasE_of (g_HasEvents S) c (fn_HasEvents_init S) sc_HasEvents_init bi_HasEvents_init (fun vs H Q E h => ?_) (fun cdv A outer s H vs Q E hr h => ?_)
  · obtain ⟨a, rfl, _⟩ := h
    rfl
  · obtain ⟨a, rfl, ha, k⟩ := h
    refine ⟨_, (pss_one (ps_expr (pe_initE (ok_Refusal S) hr rfl (pa_cons (pv 0) (pa_cons (pe_un un_neg pe_int) pa_nil))))), ?_⟩
    exact ⟨_, rfl, _, rfl, a, _, -6, rfl, c, no _ (by simp), ha, k⟩
def faultF (n : Int) : List (Str × V) := [("place", .int n), ("number", .int (-1000 - n))]
def sp_Fault (K : PySem.W.Frag) : Sp := fun vs H Q _ => ∃ (a : Addr) (n : Int), vs = [.ref a, .int n] ∧ H a = some (exo a (He.ga K "Fault") none) ∧
  ∀ d, H d = none → d ≠ a → Q .non (upd (upd (upd H d (exd d [("number", .int (-1000 - n))])) a (exo a (He.ga K "Fault") (some d))) d (exd d (faultF n)))
theorem ok_Fault (S : Top K mg) : HasE P w K mg base "Fault" 2 P_Fault_init (sp_Fault K) := by
  obtain ⟨c, no⟩ := S.xc 7 rfl
  refine hasE_of (g_Fault S) c (fn_Fault_init S) sc_Fault_init bi_Fault_init (fun vs H Q E h => ?_) (fun cdv A outer s H vs Q E hr h => ?_)
  · obtain ⟨a, n, rfl, _⟩ := h
    rfl
  · obtain ⟨a, n, rfl, ha, k⟩ := h
    refine ⟨_, (pss_cons (ps_expr (pe_initE (ok_Refusal S) hr rfl (pa_cons (pv 0) (pa_cons (pe_op op_sub (pe_un un_neg pe_int) (pv 1)) pa_nil)))) (pss_one (ps_put K (pv 0) (pv 1)))), ?_⟩
    refine ⟨_, rfl, _, rfl, _, rfl, _, _, rfl, rfl, a, _, -1000 - n, rfl, c, no _ (by simp), ha, fun d hd ne => ?_⟩
    refine ⟨_, rfl, _, rfl, a, _, rfl, c, no _ (by simp), .inr ⟨d, _, upd_same, ?_, by simp, k d hd ne⟩⟩
    rw [upd_ne ne, upd_same]
/-- raise X() -/
theorem err0 {x : Str} {n : Int} {σ : L2.St} {H : Hp} {E : XK} (r : Raised K x [("number", .int n)] H E) : tErr (He.ga K x) (sp_Ref0 K x n) tNil σ H E := by
  refine ⟨by decide, fun a ha => ⟨a, rfl, upd_same, fun d hd ne => ⟨rfl, d, [("number", .int n)], upd_same, ?_, ?_, ?_⟩⟩⟩
  · rw [upd_ne ne, upd_same]
  · rw [upd_ne ne] at hd
    exact hd
  · rw [upd_ne ne] at hd
    refine r d _ hd (fun b o hb => ?_) upd_same
    have h1 : b ≠ d := ne_of_none hb hd
    have h2 : b ≠ a := ne_of_none hb ha
    rw [upd_ne h1, del_ne h2, upd_ne h2, upd_ne h1, upd_ne h2]
    exact hb
theorem err_fault {n : Int} {σ : L2.St} {H : Hp} {E : XK} {te : TE} (h : Ev te σ H (.int n)) (r0 : Raised K "Fault" (faultF n) H E) : tErr (He.ga K "Fault") (sp_Fault K) (tCons te tNil) σ H E := by
  have main : ∀ H1, Raised K "Fault" (faultF n) H1 E → ([V.int n]).length ≤ 1000 ∧ ∀ a, H1 a = none → sp_Fault K (.ref a :: [.int n]) (upd H1 a (exo a (He.ga K "Fault") none))
      (fun v H2 => v = .non ∧ ∃ (d : Addr) (fs : List (Str × V)), H2 a = some (exo a (He.ga K "Fault") (some d)) ∧ H2 d = some (exd d fs) ∧ H1 d = none ∧ E (.ref (He.ga K "Fault")) (some d) (upd (del H2 a) d (.xd fs))) (fun _ _ _ => False) := by
    intro H1 r
    refine ⟨by simp, fun a ha => ⟨a, n, rfl, upd_same, fun d hd ne => ⟨rfl, d, faultF n, ?_, upd_same, ?_, ?_⟩⟩⟩
    · rw [upd_ne (Ne.symm ne), upd_same]
    · rw [upd_ne ne] at hd
      exact hd
    · rw [upd_ne ne] at hd
      refine r d _ hd (fun b o hb => ?_) upd_same
      have h1 : b ≠ d := ne_of_none hb hd
      have h2 : b ≠ a := ne_of_none hb ha
      rw [upd_ne h1, del_ne h2, upd_ne h1, upd_ne h2, upd_ne h1, upd_ne h2]
      exact hb
  exact h H (Ex.refl H) _ fun H1 e1 => main H1 (r0.mono e1)
end
end CK
/-! words of a text -/
namespace CK
open VbpxCore
open Vbpxaf (W)
theorem cut_ne (p : Nat) (t : Bytes) : cut p t ≠ [] := by
  cases t with
  | nil => simp [cut]
  | cons c r =>
    unfold cut
    split
    · simp
    · split
      · simp
      · split <;> simp
def plainB (u : Bytes) : Prop := ∀ c ∈ u, c ≠ 32 ∧ c ≠ 10
theorem cut_word {u : Bytes} (h : plainB u) : ∀ (p : Nat) (r : Bytes), cut p (u ++ r) = match cut (p + u.length) r with
    | [] => []
    | (_, w) :: l => (p, u ++ w) :: l := by
  induction u with
  | nil =>
    intro p r
    show cut p r = match cut p r with
      | [] => []
      | (_, w) :: l => (p, [] ++ w) :: l
    cases r with
    | nil => rfl
    | cons c r =>
      unfold cut
      split
      · rfl
      · split
        · rfl
        · split <;> rfl
  | cons c u ih =>
    intro p r
    obtain ⟨h1, h2⟩ := h c List.mem_cons_self
    have ih' := ih (fun d hd => h d (List.mem_cons_of_mem _ hd)) (p + 1) r
    show cut p (c :: (u ++ r)) = _
    have e : cut p (c :: (u ++ r)) = match cut (p + 1) (u ++ r) with
        | [] => [(p, [c])]
        | (_, w) :: l => (p, c :: w) :: l := by
      rw [cut, if_neg h1, if_neg h2]
      rfl
    rw [e, ih']
    have e2 : p + 1 + u.length = p + (c :: u).length := by simp; omega
    rw [e2]
    cases hc : cut (p + (c :: u).length) r with
    | nil => exact absurd hc (cut_ne _ _)
    | cons x l => rfl
theorem cut_blank {u : Bytes} (h : plainB u) (p : Nat) (r : Bytes) : cut p (u ++ 32 :: r) = (p, u) :: cut (p + u.length + 1) r := by
  rw [cut_word h]
  have e : cut (p + u.length) (32 :: r) = (p + u.length, []) :: cut (p + u.length + 1) r := by rw [cut, if_pos rfl]
  rw [e]
  simp
theorem cut_line {u : Bytes} (h : plainB u) (p : Nat) (r : Bytes) : cut p (u ++ 10 :: r) = (p, u) :: (p + u.length, [10]) :: cut (p + u.length + 1) r := by
  rw [cut_word h]
  have e : cut (p + u.length) (10 :: r) = (p + u.length, []) :: (p + u.length, [10]) :: cut (p + u.length + 1) r := by rw [cut, if_neg (by decide), if_pos rfl]
  rw [e]
  simp
theorem cut_end {u : Bytes} (h : plainB u) (p : Nat) : cut p u = [(p, u)] := by
  have e := cut_word h p []
  rw [List.append_nil] at e
  rw [e]
  simp [cut]
/-- the sign that is shown for a byte -/
def sgB (b : Nat) : Bool := isLetter b || (isDigit b || (b == 40 || b == 41))
def sg (b : Nat) : Nat := if sgB b = true then b else 63
def spl (w : Bytes) : Bytes := if w = [10] then [10] else w.map sg
theorem sg_63 : sgB 63 = false := by decide
theorem sg_same {b : Nat} (h : sgB b = true) : sg b = b := if_pos h
theorem sg_inj {b c : Nat} (hc : sgB c = true) (h : sg b = c) : b = c := by
  unfold sg at h
  split at h
  · exact h
  · rw [← h, sg_63] at hc
    cases hc
theorem map_sg {k : Bytes} (hk : k.all sgB = true) : ∀ {w : Bytes}, w.map sg = k ↔ w = k := by
  induction k with
  | nil => intro w; simp
  | cons c k ih =>
    rw [List.all_cons, Bool.and_eq_true] at hk
    intro w
    cases w with
    | nil => simp
    | cons b w =>
      rw [List.map_cons, List.cons.injEq, List.cons.injEq, ih hk.2]
      constructor
      · rintro ⟨h1, h2⟩
        exact ⟨sg_inj hk.1 h1, h2⟩
      · rintro ⟨rfl, h2⟩
        exact ⟨sg_same hk.1, h2⟩
/-- a word is what it is shown as, if that is letters, digits and brackets -/
theorem spl_iff {k w : Bytes} (hk : k.all sgB = true) : spl w = k ↔ w = k := by
  unfold spl
  split
  · rename_i e
    subst e
    constructor
    · rintro rfl
      exact absurd hk (by decide)
    · exact fun h => h
  · exact map_sg hk
theorem spl_line {w : Bytes} : spl w = [10] ↔ w = [10] := by
  unfold spl
  split
  · rename_i e
    simp [e]
  · rename_i ne
    refine ⟨fun h => ?_, fun h => absurd h ne⟩
    cases w with
    | nil => simp at h
    | cons b w =>
      rw [List.map_cons, List.cons.injEq] at h
      have h1 := h.1
      unfold sg at h1
      split at h1
      · rename_i hb
        rw [h1] at hb
        exact absurd hb (by decide)
      · exact absurd h1 (by decide)
theorem spl_plain {u : Bytes} (h : plainB u) : spl u = u.map sg := if_neg fun e => by
  have := (h 10 (by rw [e]; exact List.mem_cons_self)).2
  exact this rfl
theorem spl_same {w : Bytes} (h : w.all sgB = true) : spl w = w := (spl_iff h).mpr rfl
theorem spl_length (w : Bytes) : (spl w).length = w.length := by
  unfold spl
  split
  · rename_i e
    rw [e]
  · rw [List.length_map]
/-- of a letters' word the shown one is letters, and the other way round -/
theorem spl_letters (w : Bytes) : (spl w).all isLetter = w.all isLetter := by
  unfold spl
  split
  · rename_i e
    rw [e]
  · rw [List.all_map]
    congr 1
    funext b
    show isLetter (sg b) = isLetter b
    unfold sg
    split
    · rfl
    · rename_i h
      have : isLetter b = false := by
        cases hb : isLetter b with
        | false => rfl
        | true =>
          exfalso
          apply h
          unfold sgB
          rw [hb]
          rfl
      rw [this]
      decide
theorem letters_sg {w : Bytes} (h : w.all isLetter = true) : w.all sgB = true := by
  rw [List.all_eq_true] at h ⊢
  intro b hb
  unfold sgB
  rw [h b hb]
  rfl
end CK
/-! words.py -/
namespace CK
open PySem PySem.Spec PyProof.Rows L2 Evl
section
variable {P : Program} {w : World} {K : PySem.W.Frag} {mg : Str → Option Value} {base : Heap}
theorem ev_lenS {σ : L2.St} {H : Hp} {ta : TE} {z : Str} (h : Ev ta σ H (.str z)) (hz : z.length ≤ 100000) : Ev (tCB (fun xs H Q => ∃ z : Str, xs = [.str z] ∧ z.length ≤ sizeLine ∧ Q (.int z.length) H) (tCons ta tNil)) σ H (.int (z.length : Int)) := fun H1 e1 Q q =>
  h H1 e1 _ fun H2 e2 => ⟨z, rfl, sz_of hz, q H2 e2⟩
theorem ev_ord {σ : L2.St} {H : Hp} {ta : TE} {c : Nat} (h : Ev ta σ H (.str ⟨#[c]⟩)) : Ev (tCB (fun xs H Q => ∃ x : Str, xs = [.str x] ∧ x.length = 1 ∧ Q (.int (x.cps.getD 0 0 : Nat)) H) (tCons ta tNil)) σ H (.int (c : Int)) := fun H1 e1 Q q =>
  h H1 e1 _ fun H2 e2 => ⟨⟨#[c]⟩, rfl, rfl, q H2 e2⟩
/-- a for over a new tuple -/
theorem q_forNT {σ : L2.St} {H : Hp} {D : Ends} {xs : List V} {tl : TE} {j : Nat} {tu tz : TS} (h : EvU tl σ H xs) (Pv : Addr → Nat → L2.St → Hp → Prop) (h0 : ∀ p H1, H p = none → Ex H H1 → H1 p = some (.tup xs) → Pv p 0 σ H1) (hl : ∀ p i σ' H', i ≤ xs.length → Pv p i σ' H' → SqT K H' p xs)
    (hs : ∀ p i x σ' H', xs[i]? = some x → Pv p i σ' H' → tu { D with nx := Pv p (i + 1), ct := Pv p (i + 1), bk := tz D } (σ'.set j (some x)) H') (hd : ∀ p σ' H', Pv p xs.length σ' H' → tz D σ' H') : tSeq (tFor (iTup K tl) (gName j) tu) tz D σ H :=
  h H (Ex.refl H) _ fun p H1 hp e h1 => ⟨p, rfl, ⟨xs, st_of h1⟩, for_tup (D := { D with nx := tz D }) (Pv p) (h0 p H1 hp e h1) (hl p) (hs p) (hd p)⟩
def rowOf (f l : Nat) : Str := st ((List.range l).map (f + ·))
theorem rowOf_len (f l : Nat) : (rowOf f l).length = l := by simp [rowOf, st_len]
theorem rowOf_at {f l j : Nat} (h : j < l) : atI (rowOf f l).cps.toList (j : Int) = some (f + j) := by
  refine atI_nat ?_
  simp [rowOf, st, h]
def rowsL : List (Nat × Nat) := [(97, 26), (48, 10), (40, 2)]
theorem row_letters : ("abcdefghijklmnopqrstuvwxyz" : Str) = rowOf 97 26 := by decide +kernel
theorem row_digits : ("0123456789" : Str) = rowOf 48 10 := by decide +kernel
theorem row_brackets : ("()" : Str) = rowOf 40 2 := by decide +kernel
theorem sgB_of {b : Nat} {p : Nat × Nat} (hp : p ∈ rowsL) (h1 : p.1 ≤ b) (h2 : b < p.1 + p.2) : sgB b = true := by
  simp only [rowsL, List.mem_cons, List.mem_nil_iff, or_false] at hp
  unfold sgB VbpxCore.isLetter VbpxCore.isDigit
  rcases hp with rfl | rfl | rfl <;> simp at h1 h2 ⊢ <;> omega
theorem sgB_not {b : Nat} (h : ∀ p ∈ rowsL, ¬ (p.1 ≤ b ∧ b < p.1 + p.2)) : sgB b = false := by
  have h1 := h (97, 26) (by simp [rowsL])
  have h2 := h (48, 10) (by simp [rowsL])
  have h3 := h (40, 2) (by simp [rowsL])
  simp at h1 h2 h3
  unfold sgB VbpxCore.isLetter VbpxCore.isDigit
  simp
  omega
def sp_sign_of : Sp := fun vs H Q _ => ∃ b : Nat, vs = [.int b] ∧ RetV (.str (st [sg b])) H Q
theorem ok_sign_of (S : Top K mg) : Has P w K mg base CX0 "sign_of" 1 P_sign_of sp_sign_of := by
  refine has_of (g_sign_of S) (fn_sign_of S) sc_sign_of bi_sign_of (fun vs H Q E h => ?_) (fun cdv A outer s H vs Q E hr h => ?_)
  · obtain ⟨b, rfl, _⟩ := h
    rfl
  · obtain ⟨b, rfl, k⟩ := h
    refine ⟨_, (pss_cons (ps_for PassesOwn.never rfl (piT K (pe_tup (pa_cons (pe_gs (g_LETTERS S) rfl) (pa_cons (pe_gs (g_DIGITS S) rfl) (pa_cons (pe_gs (g_BRACKETS S) rfl) pa_nil))))) (pg_name (i := 1) sc_sign_of.nd rfl (Or.inl rfl))
      (pss_cons (ps_set (i := 2) sc_sign_of.nd rfl (Or.inl rfl) (pe_op op_sub (pv 0) (pe_callB call_ord (by rfl) (n_ord S) boot_ord' (pa_cons (pe_ix ix_str (pv 1) pe_int (fun _ _ => rfl)) pa_nil))))
      (pss_one (ps_if (pt_chain op_le op_lt pe_int (pv 2) (pe_callB call_len_str (by rfl) (n_len S) PySem.boot_len (pa_cons (pv 1) pa_nil)))
      (pss_one (ps_ret (pe_ix ix_str (pv 1) (pv 2) (fun _ _ => rfl)))) pss_nil))))
      (pss_one (ps_ret (pe_gs (g_OTHER_SIGN S) rfl)))), ?_⟩
    have hl : (rowsL.map fun p => V.str (rowOf p.1 p.2)) = [V.str "abcdefghijklmnopqrstuvwxyz", V.str "0123456789", V.str "()"] := by rw [row_letters, row_digits, row_brackets]; rfl
    refine q_forNT (xs := rowsL.map fun p => V.str (rowOf p.1 p.2)) (by rw [hl]; exact eu_tup (ea_cons ev_c (ea_cons ev_c (ea_cons ev_c ea_nil))) (by simp))
      (fun p i σ' H' => SqT K H' p (rowsL.map fun p => V.str (rowOf p.1 p.2)) ∧ ∃ v v', σ' = [some (.int b), v, v'] ∧ Ex H H' ∧ ∀ q ∈ rowsL.take i, ¬ (q.1 ≤ b ∧ b < q.1 + q.2))
      (fun p H1 hp e1 h1 => ⟨st_of h1, none, none, rfl, e1, fun q hq => by simp at hq⟩) (fun p i σ' H' _ h => h.1) ?_ ?_
    · rintro p i x σ' H' hi ⟨hT, v, v', rfl, e2, hj⟩
      rw [List.getElem?_map] at hi
      obtain ⟨r, hr1, rfl⟩ := Option.map_eq_some_iff.mp hi
      obtain ⟨f, l⟩ := r
      have hmem := List.mem_of_getElem? hr1
      have hl26 : 0 < l ∧ l ≤ 26 := by
        simp only [rowsL, List.mem_cons, List.mem_nil_iff, or_false, Prod.mk.injEq] at hmem
        omega
      refine q_asg (ev_op (ev_var rfl) (ev_ord (ev_op (ev_var rfl) ev_c (rv_ixS (by rw [rowOf_len]; omega) (rowOf_at (j := 0) hl26.1)))) rv_I0) fun H3 e3 => ?_
      refine s_when (b := decide (0 ≤ (b : Int) - ((f + 0 : Nat) : Int)) && decide ((b : Int) - ((f + 0 : Nat) : Int) < (l : Int))) (et_test (ev_chain ev_c (ev_var rfl) rv_I0 (fun _ => ev_is (ev_lenS (ev_var rfl) (by rw [rowOf_len]; omega)) (by rw [rowOf_len])) fun _ => rv_I0)) (fun hb H4 e4 => ?_) fun hb H4 e4 => ?_
      · rw [Bool.and_eq_true, decide_eq_true_eq, decide_eq_true_eq] at hb
        obtain ⟨j, rfl⟩ : ∃ j, b = f + j := ⟨b - f, by omega⟩
        have hjl : j < l := by omega
        have hs : sg (f + j) = f + j := sg_same (sgB_of hmem (by simp) (by show f + j < f + l; omega))
        rw [hs] at k
        refine s_ret (ev_op (ev_var rfl) (ev_is (ev_var rfl) (congrArg V.int (by omega : ((f + j : Nat) : Int) - ((f + 0 : Nat) : Int) = (j : Int)))) (rv_ixS (by rw [rowOf_len]; omega) (rowOf_at hjl))) fun H5 e5 => k H5 ((e2.trans (e3.trans e4)).trans e5)
      · refine ⟨ex_t (e3.trans e4) hT, _, _, rfl, e2.trans (e3.trans e4), fun q hq => ?_⟩
        rw [List.take_succ, hr1] at hq
        rcases List.mem_append.mp hq with hq | hq
        · exact hj q hq
        · have e : q = (f, l) := by simpa using hq
          subst e
          rw [Bool.and_eq_false_iff, decide_eq_false_iff_not, decide_eq_false_iff_not] at hb
          show ¬ (f ≤ b ∧ b < f + l)
          omega
    · rintro p σ' H' ⟨hT, v, v', rfl, e2, hj⟩
      have hs : sg b = 63 := if_neg (by rw [sgB_not hj]; decide)
      rw [hs] at k
      exact s_ret (ev_is ev_c (by decide +kernel)) fun H5 e5 => k H5 (e2.trans e5)
/-- bytes as values -/
abbrev bts (u : List Nat) : List V := nats u
theorem joinL_nil (ls : List (List Nat)) : TL.joinL [] ls = ls.flatten := by
  induction ls with
  | nil => rfl
  | cons p r ih =>
    cases r with
    | nil => simp [TL.joinL]
    | cons q r =>
      show p ++ ([] ++ TL.joinL [] (q :: r)) = _
      rw [ih]
      rfl
theorem one_flat (f : Nat → Nat) (u : List Nat) : (u.map fun b => [f b]).flatten = u.map f := by
  induction u with
  | nil => rfl
  | cons b u ih => simp [ih]
theorem sum_const (u : List Nat) (f : Nat → Nat) : ((u.map fun b => [f b]).map List.length).sum = u.length := by
  induction u with
  | nil => rfl
  | cons b u ih =>
    simp only [List.map_cons, List.sum_cons, List.length_cons, List.length_nil]
    rw [ih]
    omega
def sp_spell (K : PySem.W.Frag) : Sp := fun vs H Q _ => ∃ (a : Addr) (u : List Nat), vs = [.ref a] ∧ SqL K H a (bts u) ∧ u.length ≤ 2000 ∧ RetV (.str (st (u.map sg))) H Q
theorem ok_spell (S : Top K mg) : Has P w K mg base CX0 "spell" 2 P_spell (sp_spell K) := by
  refine has_of (g_spell S) (fn_spell S) sc_spell bi_spell (fun vs H Q E h => ?_) (fun cdv A outer s H vs Q E hr h => ?_)
  · obtain ⟨a, u, rfl, _⟩ := h
    rfl
  · obtain ⟨a, u, rfl, hL, hz, k⟩ := h
    refine ⟨_, (pss_one (ps_ret (pe_jn K pe_str (pe_lc (own := [("byte", 1)]) rfl sc_spell.nd (piL K (pv 0)) (blkOk_by (own := [("byte", 1)]) (N := N_spell) (sc := defScope s_spell) (by decide +kernel)) (fun _ _ _ _ _ => (pg_name (i := 1) sc_spell.nd rfl (Or.inl rfl))) (fun _ _ _ _ _ => pts_nil) (fun _ _ _ _ _ => (pe_h (ok_sign_of S) (hr.mono (by omega)) rfl (pa_cons (pv 1) pa_nil))))))), ?_⟩
    have hz' : (bts u).length ≤ 40000 := by rw [nats_len]; omega
    refine s_ret (ev_is (ev_join (s := []) (ls := u.map fun b => [sg b]) (ev_is ev_c (by decide +kernel)) (el_is (el_lcL (fun _ => true) (fun i => V.str (st [sg (u.getD i 0)])) (ev_var rfl) hL hz' (fun _ => rfl) (fun i x H1 e1 hi => et_yes) (fun i x H1 e1 hi _ => ?_)) ?_) ?_) ?_) k
    · obtain ⟨c, hc, rfl⟩ := nats_at hi
      rw [getD_of hc]
      exact ev_h (ea_cons (ev_var rfl) ea_nil) fun H2 e2 Q E q => ⟨c, rfl, q⟩
    · rw [nats_len, given_all 0 (fun b => V.str (st [sg b])), List.map_map]
      rfl
    · rw [sum_const, List.length_map]
      simp
      omega
    · rw [joinL_nil, one_flat]
def nmWord : List Str := ["spelled", "place"]
theorem wordF (x y : V) : putF "place" y (putF "spelled" x []) = nmWord.zip [x, y] := (put_past (by decide +kernel)).trans rfl
theorem ok_Word (S : Top K mg) : HasC P w K mg base "Word" 1 P_Word_init (sp_rec K "Word" nmWord) := by
  refine hasC_of (g_Word S) (mk_Word S) (fn_Word_init S) sc_Word_init bi_Word_init (fun vs H Q E h => ?_) (fun cdv A outer s H vs Q E hr h => ?_)
  · obtain ⟨p, dx, vals, rfl, hl, _⟩ := h
    show vals.length + 1 = 3
    rw [hl]
    rfl
  · obtain ⟨p, dx, vals, rfl, hl, hp, k⟩ := h
    obtain ⟨x, y, rfl⟩ : ∃ x y, vals = [x, y] := by
      match vals, hl with
      | [x, y], _ => exact ⟨x, y, rfl⟩
    refine ⟨_, (pss_cons (ps_f K (pv 0) (pv 1))
      (pss_one (ps_f K (pv 0) (pv 2)))), ?_⟩
    refine ⟨_, rfl, _, rfl, p, _, dx, [], rfl, hp, cl_Word S, na_Word_spelled S, by simp, ?_⟩
    refine ⟨_, rfl, _, rfl, p, _, dx, _, rfl, upd_same, cl_Word S, na_Word_place S, by simp [putF], ?_⟩
    rw [upd_upd, wordF]
    exact k
/-- a word of a text stands at p -/
def WordAt (K : PySem.W.Frag) (H : Hp) (p : Addr) (wd : Nat × List Nat) : Prop := ∃ dx, H p = some (.ins (He.ga K "Word") dx (nmWord.zip [.str (st (spl wd.2)), .int (wd.1 : Int)]))
theorem WordAt.ex {H H' : Hp} {p : Addr} {wd : Nat × List Nat} (h : WordAt K H p wd) (e : Ex H H') : WordAt K H' p wd := ⟨h.choose, e _ _ h.choose_spec⟩
def WordsAt (K : PySem.W.Frag) (H : Hp) (l : Addr) (ws : List (Nat × List Nat)) : Prop := ∃ ps : List Addr, H l = some (.lst (ps.map V.ref)) ∧ Paired (WordAt K H) ps ws
theorem paired_ex {H H' : Hp} {ps : List Addr} {ws : List (Nat × List Nat)} (h : Paired (WordAt K H) ps ws) (e : Ex H H') : Paired (WordAt K H') ps ws := L2.Paired.mapP h fun _ _ z => z.ex e
theorem WordsAt.ex {H H' : Hp} {l : Addr} {ws : List (Nat × List Nat)} (h : WordsAt K H l ws) (e : Ex H H') : WordsAt K H' l ws := by
  obtain ⟨ps, h1, h2⟩ := h
  exact ⟨ps, e _ _ h1, paired_ex h2 e⟩
theorem paired_at {α β : Type} {F : α → β → Prop} : ∀ {l : List α} {m : List β} {i : Nat} {b : β}, Paired F l m → m[i]? = some b → ∃ a, l[i]? = some a ∧ F a b
  | _, _, _, _, .nil, h => by simp at h
  | _, _, 0, _, .cons r _, h => by simp at h; subst h; exact ⟨_, rfl, r⟩
  | _, _, i + 1, b, .cons _ t, h => by
    obtain ⟨a, h1, h2⟩ := paired_at (i := i) (b := b) t (by simpa using h)
    exact ⟨a, by simpa using h1, h2⟩
theorem cut_len (t : List Nat) : ∀ p, (VbpxCore.cut p t).length ≤ 2 * t.length + 1 := by
  induction t with
  | nil => intro p; simp [VbpxCore.cut]
  | cons c r ih =>
    intro p
    have h := ih (p + 1)
    unfold VbpxCore.cut
    split
    · simp only [List.length_cons]; omega
    · split
      · simp only [List.length_cons]; omega
      · split
        · simp
        · rename_i e
          rw [e] at h
          simp only [List.length_cons] at h ⊢
          omega
theorem cutV_nats (t : List Nat) (i j : Nat) (hi : i ≤ j) (hj : j ≤ t.length) : cutV (bts t) (some (i : Int)) (some (j : Int)) = bts ((t.take j).drop i) := by
  unfold cutV
  rw [HT.sIx_nat, HT.sIx_nat, nats_len, Nat.min_eq_left (show i ≤ t.length by omega), Nat.min_eq_left hj, List.drop_take]
  unfold bts nats
  rw [List.map_take, List.map_drop]
theorem cutV_from (t : List Nat) (i : Nat) (hi : i ≤ t.length) : cutV (bts t) (some (i : Int)) none = bts (t.drop i) := by
  unfold cutV
  rw [HT.sIx_nat, HT.sIx_none, nats_len, Nat.min_eq_left hi]
  unfold bts nats
  rw [List.map_drop, List.take_of_length_le]
  simp
/-- f of a new list -/
theorem ev_hN {sp : Sp} {σ : L2.St} {H : Hp} {xs : List V} {E : XK} {te : TE} {z : V} (h : EvL te σ H xs) (hs : ∀ p H1, Ex H H1 → H1 p = some (.lst xs) → ∀ (Q : VK) (E : XK), RetV z H1 Q → sp [.ref p] H1 Q E) : Ev (tCall sp [] E (tCons te tNil)) σ H z := fun H1 e1 Q q =>
  h H1 e1 _ fun p H2 hp e2 h2 => hs p H2 (e1.trans e2) h2 Q E fun H3 e3 => q H3 (e2.trans e3)
def sp_split (K : PySem.W.Frag) : Sp := fun vs H Q _ => ∃ (a : Addr) (t : List Nat), vs = [.ref a] ∧ SqL K H a (bts t) ∧ t.length ≤ 2000 ∧ ∀ p H2, H p = none → Ex H H2 → WordsAt K H2 p (VbpxCore.cut 0 t ++ [(t.length, [])]) → Q (.ref p) H2
theorem dec_int (a b : Int) : decide (V.int a = V.int b) = decide (a = b) := by
  by_cases h : a = b
  · subst h
    rw [decide_eq_true rfl, decide_eq_true rfl]
  · rw [decide_eq_false h, decide_eq_false fun q => h (by injection q)]
theorem drop_split {t : List Nat} {i st : Nat} {c : Nat} (h : t[i]? = some c) (hs : st ≤ i) : t.drop st = (t.take i).drop st ++ c :: t.drop (i + 1) := by
  obtain ⟨hi, e⟩ := List.getElem?_eq_some_iff.mp h
  have e1 : t = t.take i ++ c :: t.drop (i + 1) := by
    rw [← e, List.getElem_cons_drop, List.take_append_drop]
  have hl : (t.take i).length = i := by rw [List.length_take]; omega
  conv => lhs; rw [e1]
  rw [List.drop_append_of_le_length (by omega)]
theorem take_drop_succ {t : List Nat} {i st : Nat} {c : Nat} (h : t[i]? = some c) (hs : st ≤ i) : (t.take (i + 1)).drop st = (t.take i).drop st ++ [c] := by
  obtain ⟨hi, e⟩ := List.getElem?_eq_some_iff.mp h
  have hl : (t.take i).length = i := by rw [List.length_take]; omega
  rw [List.take_succ, h, List.drop_append_of_le_length (by omega)]
  rfl
/-- Word(spell(text[..]), start) -/
theorem er_word {σ : L2.St} {H : Hp} {a : Addr} {t u : List Nat} {start : Nat} {te ts : TE} {E E' : XK} (hu : plainB u) (hz : u.length ≤ 2000) (h1 : EvL te σ H (bts u)) (h2 : Ev ts σ H (.int (start : Int))) :
    EvR (tMake (He.ga K "Word") (sp_rec K "Word" nmWord) [] E (tCons (tCall (sp_spell K) [] E' (tCons te tNil)) (tCons ts tNil))) σ H (He.ga K "Word") (nmWord.zip [.str (st (spl u)), .int (start : Int)]) := by
  have z := er_mk (K := K) (x := "Word") (names := nmWord) (E := E) (ea_cons (ev_hN (sp := sp_spell K) (E := E') (z := .str (st (u.map sg))) h1 fun p H1 e1 hp Q E q => ⟨p, u, rfl, sq_of hp, hz, q⟩) (ea_cons h2 ea_nil)) rfl
  rw [← spl_plain hu] at z
  exact z
theorem ok_split_words (S : Top K mg) : Has P w K mg base CX0 "split_words" 3 P_split_words (sp_split K) := by
  refine has_of (g_split_words S) (fn_split_words S) sc_split_words bi_split_words (fun vs H Q E h => ?_) (fun cdv A outer s H vs Q E hr h => ?_)
  · obtain ⟨a, t, rfl, _⟩ := h
    rfl
  · obtain ⟨a, t, rfl, hL, hz, k⟩ := h
    refine ⟨_, (pss_cons (ps_set (i := 1) sc_split_words.nd rfl (Or.inl rfl) (pe_lst pa_nil))
      (pss_cons (ps_set (i := 2) sc_split_words.nd rfl (Or.inl rfl) pe_int)
      (pss_cons (ps_for PassesOwn.never rfl (piE K (by rfl) (n_enumerate S) (pa_cons (pv 0) pa_nil)) (pgT K 2 (pgs_cons (pg_name (i := 3) sc_split_words.nd rfl (Or.inl rfl)) (pgs_cons (pg_name (i := 4) sc_split_words.nd rfl (Or.inl rfl)) pgs_nil)))
      (pss_cons (ps_if (PW.pt (pw_or (pt_cmpR op_eq (pv 4) (pe_gi (g_BLANK S) rfl) (nomark _)) (pw_or1 (pt_cmpR op_eq (pv 4) (pe_gi (g_LINE_END S) rfl) (nomark _)))))
      (pss_cons (ps_expr (pe_bmK K PySem.F.plainAttrs_list PySem.F.slot_list_append PySem.F.type_list_append mt_append (pv 1) (pa_cons (pe_mkK K (ok_Word S) (hr.mono (by omega)) rfl (pa_cons (pe_h (ok_spell S) (hr.mono (by omega)) rfl (pa_cons (pe_slice (slL K) (pv 0) (po_some (pv 2)) (po_some (pv 3))) pa_nil)) (pa_cons (pv 2) pa_nil))) pa_nil)))
      (pss_one (ps_set (i := 2) sc_split_words.nd rfl (Or.inl rfl) (pe_op op_add (pv 3) pe_int)))) pss_nil)
      (pss_one (ps_if (pt_cmpR op_eq (pv 4) (pe_gi (g_LINE_END S) rfl) (nomark _))
      (pss_one (ps_expr (pe_bmK K PySem.F.plainAttrs_list PySem.F.slot_list_append PySem.F.type_list_append mt_append (pv 1) (pa_cons (pe_mkK K (ok_Word S) (hr.mono (by omega)) rfl (pa_cons (pe_gs (g_LINE_END_WORD S) rfl) (pa_cons (pv 3) pa_nil))) pa_nil)))) pss_nil))))
      (pss_cons (ps_expr (pe_bmK K PySem.F.plainAttrs_list PySem.F.slot_list_append PySem.F.type_list_append mt_append (pv 1) (pa_cons (pe_mkK K (ok_Word S) (hr.mono (by omega)) rfl (pa_cons (pe_h (ok_spell S) (hr.mono (by omega)) rfl (pa_cons (pe_slice (slL K) (pv 0) (po_some (pv 2)) po_none) pa_nil)) (pa_cons (pv 2) pa_nil))) pa_nil)))
      (pss_cons (ps_expr (pe_bmK K PySem.F.plainAttrs_list PySem.F.slot_list_append PySem.F.type_list_append mt_append (pv 1) (pa_cons (pe_mkK K (ok_Word S) (hr.mono (by omega)) rfl (pa_cons pe_str (pa_cons (pe_callB (cLen K) (by rfl) (n_len S) PySem.boot_len (pa_cons (pv 0) pa_nil)) pa_nil))) pa_nil)))
      (pss_one (ps_ret (pv 1)))))))), ?_⟩
    refine q_asgL (el_lst ea_nil (by simp)) fun l H1 hl e1 h1 => ?_
    refine q_asg ev_c fun H2 e2 => ?_
    have he2 : Ex H H2 := e1.trans e2
    refine ⟨_, rfl, a, bts t, rfl, ex_l he2 hL, ?_⟩
    refine for_it (walk_enum (K := K) (a := a) (xs := bts t)) (fun i σ' H' => ∃ v v' start ps ws, σ' = [some (.ref a), some (.ref l), some (.int ((start : Nat) : Int)), v, v'] ∧ Ex H H' ∧ H' l = some (.lst (ps.map V.ref)) ∧ Paired (WordAt K H') ps ws ∧ start ≤ i ∧
        plainB ((t.take i).drop start) ∧ VbpxCore.cut 0 t = ws ++ VbpxCore.cut start (t.drop start) ∧ ps.length ≤ 2 * i)
      ⟨none, none, 0, [], [], rfl, he2, e2 _ _ h1, .nil, Nat.le_refl _, fun c hc => by simp at hc, rfl, by simp⟩ (fun i σ' H' _ h => ?_) ?_ ?_
    · obtain ⟨v, v', start, ps, ws, _, e3, _⟩ := h
      exact ex_l e3 hL
    · rintro i x σ' H' H'' hi ⟨v, v', start, ps, ws, rfl, e3, hlst, hps, hsi, hpl, hcut, hpz⟩ ⟨T, x1, y, rfl, hT, rfl, hx1, hy⟩
      cases hx1
      obtain ⟨c, hc, rfl⟩ := nats_at hy
      rw [nats_len] at hi
      refine ⟨T, _, rfl, st_of upd_same, rfl, _, _, rfl, _, _, rfl, rfl, ?_⟩
      have e4 : Ex H' (upd H' T (.tup [.int ((i : Nat) : Int), .int ((c : Nat) : Int)])) := Ex.new hT
      have hu : ((t.take i).drop start).length = i - start := by rw [List.length_drop, List.length_take]; omega
      have hlst4 := e4 _ _ hlst
      have hL4 : SqL K (upd H' T (.tup [.int ((i : Nat) : Int), .int ((c : Nat) : Int)])) a (bts t) := ex_l (e3.trans e4) hL
      generalize upd H' T (.tup [.int ((i : Nat) : Int), .int ((c : Nat) : Int)]) = H4 at e4 hlst4 hL4 ⊢
      have hdrop := drop_split hc hsi
      refine q_when (b := decide (c = 32) || decide (c = 10)) (et_or (et_is (et_test (ev_op (ev_var rfl) ev_c (rv_eq rfl))) (by rw [dec_int]; exact decide_eq_decide.mpr (by omega))) fun _ => et_is (et_test (ev_op (ev_var rfl) ev_c (rv_eq rfl))) (by rw [dec_int]; exact decide_eq_decide.mpr (by omega))) (fun hb H5 e5 => ?_) fun hb H5 e5 => ?_
      · refine q_appR (e5 _ _ hlst4) (ev_var rfl) (er_word (a := a) (t := t) hpl (by omega) (el_is (el_sl (ev_var rfl) (eo_some (ev_var rfl)) (eo_some (ev_var rfl)) (ex_l e5 hL4)) (cutV_nats t start i hsi (by omega))) (ev_var rfl)) (by rw [List.length_map]; omega) fun p dx H6 hp e6 h6 => ?_
        refine s_asg (v := .int ((i + 1 : Nat) : Int)) (ev_is (ev_op (ev_var rfl) ev_c rv_I0) (congrArg V.int (by omega))) fun H7 e7 => ?_
        have hfr : H l = none := hl
        have eall : Ex H (upd H6 l (.lst (ps.map V.ref ++ [.ref p]))) := Ex.mut ((e3.trans e4).trans (e5.trans e6)) hfr
        have lne : l ≠ p := fun z => by rw [z] at hlst4; rw [e5 _ _ hlst4] at hp; cases hp
        have hword : WordAt K H7 p (start, (t.take i).drop start) := ⟨dx, e7 _ _ (by rw [upd_ne (Ne.symm lne)]; exact h6)⟩
        have hold : Paired (WordAt K H7) ps ws := L2.Paired.mapP hps fun q wd z => by
          obtain ⟨d, hd⟩ := z
          have qne : q ≠ l := fun z => by rw [z, hlst] at hd; cases hd
          exact ⟨d, e7 _ _ (by rw [upd_ne qne]; exact e6 _ _ (e5 _ _ (e4 _ _ hd)))⟩
        have hl7 : H7 l = some (.lst ((ps ++ [p]).map V.ref)) := by rw [e7 _ _ upd_same, List.map_append]; rfl
        refine s_when (b := decide (c = 10)) (et_is (et_test (ev_op (ev_var rfl) ev_c (rv_eq rfl))) (by rw [dec_int]; exact decide_eq_decide.mpr (by omega))) (fun hb2 H8 e8 => ?_) fun hb2 H8 e8 => ?_
        · have hc10 : c = 10 := of_decide_eq_true hb2
          subst hc10
          refine s_appR (e8 _ _ hl7) (ev_var rfl) (er_mk (ea_cons ev_c (ea_cons (ev_var rfl) ea_nil)) rfl) (by simp; omega) fun p2 dx2 H9 hp2 e9 h9 => ?_
          have lne2 : l ≠ p2 := fun z => by rw [z] at hl7; rw [e8 _ _ hl7] at hp2; cases hp2
          refine ⟨_, _, i + 1, ps ++ [p] ++ [p2], ws ++ [(start, (t.take i).drop start)] ++ [(i, [10])], rfl, Ex.mut ((eall.trans e7).trans (e8.trans e9)) hfr, ?_, ?_, Nat.le_refl _, ?_, ?_, ?_⟩
          · rw [upd_same]
            simp
          · refine Paired.snoc (Paired.snoc (L2.Paired.mapP hold fun q wd z => ?_) ?_) ?_
            · obtain ⟨d, hd⟩ := z
              have qne : q ≠ l := fun z => by rw [z, hl7] at hd; cases hd
              exact ⟨d, by rw [upd_ne qne]; exact e9 _ _ (e8 _ _ hd)⟩
            · obtain ⟨d, hd⟩ := hword
              exact ⟨d, by rw [upd_ne (Ne.symm lne)]; exact e9 _ _ (e8 _ _ hd)⟩
            · refine ⟨dx2, ?_⟩
              rw [upd_ne (Ne.symm lne2), h9]
              have : ("\n" : Str) = st (spl [10]) := by decide +kernel
              rw [this]
          · have : (t.take (i + 1)).drop (i + 1) = [] := by rw [List.drop_eq_nil_iff, List.length_take]; omega
            rw [this]
            exact fun c hc => by simp at hc
          · rw [hcut, hdrop, cut_line hpl, hu]
            have : start + (i - start) = i := by omega
            rw [this]
            simp
          · simp; omega
        · have hc32 : c = 32 := by
            rw [hb2, Bool.or_false] at hb
            exact of_decide_eq_true hb
          subst hc32
          refine ⟨_, _, i + 1, ps ++ [p], ws ++ [(start, (t.take i).drop start)], rfl, (eall.trans e7).trans e8, e8 _ _ hl7, Paired.snoc (paired_ex hold e8) (hword.ex e8), Nat.le_refl _, ?_, ?_, ?_⟩
          · have : (t.take (i + 1)).drop (i + 1) = [] := by rw [List.drop_eq_nil_iff, List.length_take]; omega
            rw [this]
            exact fun c hc => by simp at hc
          · rw [hcut, hdrop, cut_blank hpl, hu]
            have : start + (i - start) = i := by omega
            rw [this]
            simp
          · simp; omega
      · obtain ⟨hn1, hn2⟩ := Bool.or_eq_false_iff.mp hb
        have n32 := of_decide_eq_false hn1
        have n10 := of_decide_eq_false hn2
        refine s_when (b := decide (c = 10)) (et_is (et_test (ev_op (ev_var rfl) ev_c (rv_eq rfl))) (by rw [dec_int]; exact decide_eq_decide.mpr (by omega))) (fun hb2 H8 e8 => absurd (of_decide_eq_true hb2) n10) fun hb2 H8 e8 => ?_
        refine ⟨_, _, start, ps, ws, rfl, (e3.trans e4).trans (e5.trans e8), e8 _ _ (e5 _ _ hlst4), paired_ex hps (e4.trans (e5.trans e8)), by omega, ?_, hcut, by omega⟩
        rw [take_drop_succ hc hsi]
        intro d hd
        rcases List.mem_append.mp hd with hd | hd
        · exact hpl d hd
        · have : d = c := by simpa using hd
          rw [this]
          exact ⟨n32, n10⟩
    · rintro σ' H' ⟨v, v', start, ps, ws, rfl, e3, hlst, hps, hsi, hpl, hcut, hpz⟩
      rw [nats_len] at hsi hpl hpz
      rw [List.take_length] at hpl
      have hlen : (t.drop start).length ≤ 2000 := by rw [List.length_drop]; omega
      refine q_appR hlst (ev_var rfl) (er_word (a := a) (t := t) hpl hlen (el_is (el_sl (ev_var rfl) (eo_some (ev_var rfl)) eo_none (ex_l e3 hL)) (cutV_from t start hsi)) (ev_var rfl)) (by rw [List.length_map]; omega) fun p dx H6 hp e6 h6 => ?_
      have lne : l ≠ p := fun z => by rw [z] at hlst; rw [hlst] at hp; cases hp
      have hl6 : upd H6 l (.lst (ps.map V.ref ++ [.ref p])) l = some (.lst ((ps ++ [p]).map V.ref)) := by rw [upd_same, List.map_append]; rfl
      refine q_appR hl6 (ev_var rfl) (er_mk (ea_cons ev_c (ea_cons (ev_len (ev_var rfl) (ex_l (Ex.mut (e3.trans e6) hl) hL)) ea_nil)) rfl) (by simp; omega) fun p2 dx2 H9 hp2 e9 h9 => ?_
      have lne2 : l ≠ p2 := fun z => by rw [← z, hl6] at hp2; cases hp2
      refine s_ret (ev_var rfl) fun H10 e10 => k l H10 hl ((Ex.mut ((Ex.mut (e3.trans e6) hl).trans e9) hl).trans e10) ⟨ps ++ [p] ++ [p2], e10 _ _ (by rw [upd_same]; simp), ?_⟩
      have e11 : VbpxCore.cut 0 t ++ [(t.length, [])] = ws ++ [(start, t.drop start)] ++ [(t.length, [])] := by rw [hcut, cut_end hpl]
      rw [e11]
      refine Paired.snoc (Paired.snoc (L2.Paired.mapP hps fun q wd z => ?_) ?_) ?_
      · obtain ⟨d, hd⟩ := z
        have qne : q ≠ l := fun z => by rw [z, hlst] at hd; cases hd
        exact ⟨d, e10 _ _ (by rw [upd_ne qne]; exact e9 _ _ (by rw [upd_ne qne]; exact e6 _ _ hd))⟩
      · exact ⟨dx, e10 _ _ (by rw [upd_ne (Ne.symm lne)]; exact e9 _ _ (by rw [upd_ne (Ne.symm lne)]; exact h6))⟩
      · refine ⟨dx2, e10 _ _ ?_⟩
        rw [upd_ne (Ne.symm lne2), h9, nats_len]
        have : ("" : Str) = st (spl []) := by decide +kernel
        rw [this]
end
end CK
/-! the reader of words.py -/
namespace CK
open PySem PySem.Spec PyProof.Rows L2 Evl
section
variable {P : Program} {w : World} {K : PySem.W.Frag} {mg : Str → Option Value} {base : Heap}
def nmReader : List Str := ["words", "position"]
theorem readerF (x y : V) : putF "position" y (putF "words" x []) = nmReader.zip [x, y] := (put_past (by decide +kernel)).trans rfl
theorem reader_words (x y : V) : (nmReader.zip [x, y]).lookup ("words" : Str) = some x := lk_here
theorem reader_pos (x y : V) : (nmReader.zip [x, y]).lookup ("position" : Str) = some y := (lk_past (by decide +kernel)).trans lk_here
theorem reader_put (x y z : V) : putF "position" z (nmReader.zip [x, y]) = nmReader.zip [x, z] := (put_past (by decide +kernel)).trans (congrArg _ put_here)
theorem reader_no (x y : V) {m : Str} (h1 : (m == ("words" : Str)) = false) (h2 : (m == ("position" : Str)) = false) : (nmReader.zip [x, y]).lookup m = none := (lk_past h1).trans ((lk_past h2).trans rfl)
theorem word_sp (x y : V) : (nmWord.zip [x, y]).lookup ("spelled" : Str) = some x := lk_here
theorem word_pl (x y : V) : (nmWord.zip [x, y]).lookup ("place" : Str) = some y := (lk_past (by decide +kernel)).trans lk_here
/-- a reader stands at r, ahead of the i-th of the words ws (the last one stands for the text's end) -/
def ReaderAt (K : PySem.W.Frag) (H : Hp) (r : Addr) (ws : List (Nat × List Nat)) (i : Nat) : Prop := ∃ dx l, H r = some (.ins (He.ga K "Reader") dx (nmReader.zip [.ref l, .int (i : Int)])) ∧ WordsAt K H l ws
theorem ReaderAt.ex {H H' : Hp} {r : Addr} {ws : List (Nat × List Nat)} {i : Nat} (h : ReaderAt K H r ws i) (e : Ex H H') : ReaderAt K H' r ws i := by
  obtain ⟨dx, l, h1, h2⟩ := h
  exact ⟨dx, l, e _ _ h1, h2.ex e⟩
theorem ReaderAt.there {H : Hp} {r : Addr} {ws : List (Nat × List Nat)} {i : Nat} (h : ReaderAt K H r ws i) : H r ≠ none := by
  obtain ⟨dx, l, h1, _⟩ := h
  rw [h1]
  simp
theorem words_ne {H : Hp} {r dx l : Addr} {x y : V} {ws : List (Nat × List Nat)} (hr : H r = some (.ins (He.ga K "Reader") dx (nmReader.zip [x, y]))) (h : WordsAt K H l ws) {H' : Hp} (e : ExB r H H') : WordsAt K H' l ws := by
  obtain ⟨ps, h1, h2⟩ := h
  refine ⟨ps, e _ _ (fun z => ?_) h1, L2.Paired.mapP h2 fun q wd z => ?_⟩
  · rw [z, hr] at h1
    cases h1
  · obtain ⟨d, hd⟩ := z
    refine ⟨d, e _ _ (fun z => ?_) hd⟩
    rw [z, hr] at hd
    have h3 := Option.some.inj hd
    injection h3 with _ _ h4
    have h5 := congrArg (fun l : List (Str × V) => l.map (·.1)) h4
    revert h5
    show ¬ (nmReader = nmWord)
    decide +kernel
/-- Reader(text) -/
def sp_Reader (K : PySem.W.Frag) : Sp := fun vs H Q _ => ∃ (p dx a : Addr) (t : List Nat), vs = [.ref p, .ref a] ∧ H p = some (.ins (He.ga K "Reader") dx []) ∧ SqL K H a (bts t) ∧ t.length ≤ 2000 ∧
  ∀ H2, ExB p H H2 → ReaderAt K H2 p (VbpxCore.cut 0 t ++ [(t.length, [])]) 0 → Q .non H2
theorem ok_Reader (S : Top K mg) : HasC P w K mg base "Reader" 4 P_Reader_init (sp_Reader K) := by
  refine hasC_of (g_Reader S) (mk_Reader S) (fn_Reader_init S) sc_Reader_init bi_Reader_init (fun vs H Q E h => ?_) (fun cdv A outer s H vs Q E hr h => ?_)
  · obtain ⟨p, dx, a, t, rfl, _⟩ := h
    rfl
  · obtain ⟨p, dx, a, t, rfl, hp, hL, hz, k⟩ := h
    refine ⟨_, (pss_cons (ps_f K (pv 0) (pe_h (ok_split_words S) (hr.mono (by omega)) rfl (pa_cons (pv 1) pa_nil)))
      (pss_one (ps_f K (pv 0) pe_int))), ?_⟩
    refine ⟨_, rfl, a, t, rfl, hL, hz, fun l H2 hl e2 hw => ?_⟩
    refine ⟨_, rfl, p, _, dx, [], rfl, e2 _ _ hp, cl_Reader S, na_Reader_words S, by simp, ?_⟩
    refine ⟨_, rfl, p, _, dx, _, rfl, upd_same, cl_Reader S, na_Reader_position S, by simp [putF], ?_⟩
    rw [upd_upd, readerF]
    refine k _ (fun b o n hb => by rw [upd_ne n]; exact e2 _ _ hb) ⟨dx, l, upd_same, ?_⟩
    obtain ⟨ps, h1, h2⟩ := hw
    have ne : ∀ {q o}, H2 q = some o → o ≠ .ins (He.ga K "Reader") dx [] → q ≠ p := fun {q o} h n z => n (by rw [z, e2 _ _ hp] at h; exact (Option.some.inj h).symm)
    refine ⟨ps, by rw [upd_ne (ne h1 (by simp))]; exact h1, L2.Paired.mapP h2 fun q wd z => ?_⟩
    obtain ⟨d, hd⟩ := z
    exact ⟨d, by rw [upd_ne (ne hd (by simp [nmWord]))]; exact hd⟩
/-- a reader is made of a text -/
theorem er_reader {σ : L2.St} {H : Hp} {a : Addr} {t : List Nat} {te : TE} {E : XK} {Q : VK} (h : Ev te σ H (.ref a)) (hL : SqL K H a (bts t)) (hz : t.length ≤ 2000)
    (k : ∀ p H2, H p = none → Ex H H2 → ReaderAt K H2 p (VbpxCore.cut 0 t ++ [(t.length, [])]) 0 → Q (.ref p) H2) : tMake (He.ga K "Reader") (sp_Reader K) [] E (tCons te tNil) σ H Q :=
  h H (Ex.refl H) _ fun H1 e1 => fun p dx hp hdx ne => by
    refine ⟨p, dx, a, t, rfl, upd_same, ?_, hz, fun H2 e2 hR => ⟨rfl, k p H2 (fresh_back e1 hp) (fun b o hb => ?_) hR⟩⟩
    · refine ex_l (e1.trans fun b o hb => ?_) hL
      rw [upd_ne (ne_of_none hb hp), upd_ne (ne_of_none hb hdx)]
      exact hb
    · have hb1 := e1 _ _ hb
      have n1 : b ≠ p := ne_of_none hb1 hp
      exact e2 b o n1 (by rw [upd_ne n1, upd_ne (ne_of_none hb1 hdx)]; exact hb1)
/-- the word that stands there -/
theorem ev_at {σ : L2.St} {H : Hp} {r : Addr} {ws : List (Nat × List Nat)} {i : Nat} {wd : Nat × List Nat} {tr : TE} {f : Str} {v : V} (S : Top K mg) (hR : ReaderAt K H r ws i) (hw : ws[i]? = some wd) (h : Ev tr σ H (.ref r)) (na : NoAttr K (He.ga K "Word") f)
    (hf : (nmWord.zip [V.str (st (spl wd.2)), .int (wd.1 : Int)]).lookup f = some v) : Ev (tFld K (tOp (rIxL K) (tFld K tr "words") (tFld K tr "position")) f) σ H v := by
  obtain ⟨dx, l, h1, ps, h2, h3⟩ := hR
  obtain ⟨p, hp, dw, hd⟩ := paired_at h3 hw
  refine ev_fld (ev_op (ev_fld h h1 (cl_Reader S) (na_Reader_words S) (reader_words _ _)) (ev_fld h h1 (cl_Reader S) (na_Reader_position S) (reader_pos _ _)) (rv_ixL (sq_of h2) (atI_nat (v := V.ref p) ?_))) hd (cl_Word S) na hf
  rw [List.getElem?_map, hp]
  rfl
def sp_shown (K : PySem.W.Frag) : Sp := fun vs H Q _ => ∃ (r : Addr) (ws : List (Nat × List Nat)) (i : Nat) (wd : Nat × List Nat), vs = [.ref r] ∧ ReaderAt K H r ws i ∧ ws[i]? = some wd ∧ RetV (.str (st (spl wd.2))) H Q
theorem ok_Reader_shown (S : Top K mg) : HasM P w K mg base CX0 "Reader" "shown" 1 P_Reader_shown (sp_shown K) := by
  refine hasM_of (cl_Reader S) (me_Reader_shown S) (fn_Reader_shown S) sc_Reader_shown bi_Reader_shown (fun vs H Q E h => ?_) (fun cdv A outer s H vs Q E hr h => ?_)
  · obtain ⟨r, ws, i, wd, rfl, _⟩ := h
    rfl
  · obtain ⟨r, ws, i, wd, rfl, hR, hw, k⟩ := h
    refine ⟨_, (pss_one (ps_ret (pe_f K (pe_ix (ixL K) (pe_f K (pv 0)) (pe_f K (pv 0)) (fun _ _ => rfl))))), ?_⟩
    exact s_ret (ev_at S hR hw (ev_var rfl) (na_Word_spelled S) (word_sp _ _)) k
def sp_at_end (K : PySem.W.Frag) : Sp := fun vs H Q _ => ∃ (r : Addr) (ws : List (Nat × List Nat)) (i : Nat), vs = [.ref r] ∧ ReaderAt K H r ws i ∧ 0 < ws.length ∧ RetV (.bl (decide (i + 1 = ws.length))) H Q
theorem paired_len {α β : Type} {F : α → β → Prop} {l : List α} {m : List β} (h : Paired F l m) : l.length = m.length := Paired.length h
theorem ok_Reader_at_end (S : Top K mg) : HasM P w K mg base CX0 "Reader" "at_end" 1 P_Reader_at_end (sp_at_end K) := by
  refine hasM_of (cl_Reader S) (me_Reader_at_end S) (fn_Reader_at_end S) sc_Reader_at_end bi_Reader_at_end (fun vs H Q E h => ?_) (fun cdv A outer s H vs Q E hr h => ?_)
  · obtain ⟨r, ws, i, rfl, _⟩ := h
    rfl
  · obtain ⟨r, ws, i, rfl, hR, hw, k⟩ := h
    refine ⟨_, (pss_one (ps_ret (pe_cmpR op_eq (pe_f K (pv 0)) (pe_op op_sub (pe_callB (cLen K) (by rfl) (n_len S) PySem.boot_len (pa_cons (pe_f K (pv 0)) pa_nil)) pe_int) (nomark _)))), ?_⟩
    obtain ⟨dx, l, h1, ps, h2, h3⟩ := hR
    refine s_ret (ev_is (ev_op (ev_fld (ev_var rfl) h1 (cl_Reader S) (na_Reader_position S) (reader_pos _ _)) (ev_op (ev_len (ev_fld (ev_var rfl) h1 (cl_Reader S) (na_Reader_words S) (reader_words _ _)) (sq_of h2)) ev_c rv_I0) (rv_eq rfl)) ?_) k
    rw [dec_int, List.length_map, paired_len h3]
    exact congrArg V.bl (decide_eq_decide.mpr (by omega))
def sp_go_on (K : PySem.W.Frag) : Sp := fun vs H Q _ => ∃ (r : Addr) (ws : List (Nat × List Nat)) (i : Nat), vs = [.ref r] ∧ ReaderAt K H r ws i ∧ ∀ H2, ExB r H H2 → ReaderAt K H2 r ws (i + 1) → Q .non H2
theorem ok_Reader_go_on (S : Top K mg) : HasM P w K mg base CX0 "Reader" "go_on" 1 P_Reader_go_on (sp_go_on K) := by
  refine hasM_of (cl_Reader S) (me_Reader_go_on S) (fn_Reader_go_on S) sc_Reader_go_on bi_Reader_go_on (fun vs H Q E h => ?_) (fun cdv A outer s H vs Q E hr h => ?_)
  · obtain ⟨r, ws, i, rfl, _⟩ := h
    rfl
  · obtain ⟨r, ws, i, rfl, ⟨dx, l, h1, h2⟩, k⟩ := h
    refine ⟨_, (pss_one (ps_f K (pv 0) (pe_op op_add (pe_f K (pv 0)) pe_int))), ?_⟩
    refine ⟨_, rfl, r, _, dx, _, _, rfl, h1, cl_Reader S, na_Reader_position S, reader_pos _ _, _, _, rfl, rfl, _, rfl, r, _, dx, _, rfl, h1, cl_Reader S, na_Reader_position S, by simp [nmReader], ?_⟩
    rw [reader_put]
    refine k _ ExB.upd ⟨dx, l, upd_same, words_ne h1 h2 ExB.upd⟩
/-- the fault of the word that stands there -/
def RaisedB (K : PySem.W.Frag) (r : Addr) (n : Nat) (H : Hp) (E : XK) : Prop := ∀ d H', H d = none → ExB r H H' → H' d = some (.xd (faultF (n : Int))) → E (.ref (He.ga K "Fault")) (some d) H'
def sp_refuse (K : PySem.W.Frag) : Sp := fun vs H _ E => ∃ (r : Addr) (ws : List (Nat × List Nat)) (i : Nat) (wd : Nat × List Nat), vs = [.ref r] ∧ ReaderAt K H r ws i ∧ ws[i]? = some wd ∧ RaisedB K r wd.1 H E
theorem ok_Reader_refuse (S : Top K mg) : HasM P w K mg base (L2.CX P w) "Reader" "refuse" 4 P_Reader_refuse (sp_refuse K) := by
  refine hasM_ofX (cl_Reader S) (me_Reader_refuse S) (fn_Reader_refuse S) sc_Reader_refuse bi_Reader_refuse (fun vs H Q E h => ?_) (fun cdv A outer s H vs Q E hr h => ?_)
  · obtain ⟨r, ws, i, wd, rfl, _⟩ := h
    rfl
  · obtain ⟨r, ws, i, wd, rfl, hR, hw, k⟩ := h
    refine ⟨_, (pss_one (ps_raise rfl (takes_of rfl rfl rfl rfl) (pmk_x K (ok_Fault S) (hr.mono (by omega)) rfl (pa_cons (pe_f K (pe_ix (ixL K) (pe_f K (pv 0)) (pe_f K (pv 0)) (fun _ _ => rfl))) pa_nil)))), ?_⟩
    exact err_fault (n := (wd.1 : Int)) (ev_at S hR hw (ev_var rfl) (na_Word_place S) (word_pl _ _)) fun d H' hd e h3 => k d H' hd (Ex.b e) h3
/-- the next word must be this one -/
def sp_expect (K : PySem.W.Frag) : Sp := fun vs H Q E => ∃ (r : Addr) (ws : List (Nat × List Nat)) (i : Nat) (wd : Nat × List Nat) (z : List Nat), vs = [.ref r, .str (st z)] ∧ ReaderAt K H r ws i ∧ ws[i]? = some wd ∧
  (spl wd.2 = z → ∀ H2, ExB r H H2 → ReaderAt K H2 r ws (i + 1) → Q .non H2) ∧ (spl wd.2 ≠ z → RaisedB K r wd.1 H E)
theorem RaisedB.mono {r : Addr} {n : Nat} {H H1 : Hp} {E : XK} (h : RaisedB K r n H E) (e : ExB r H H1) (hr : H r ≠ none) (hr1 : H1 r ≠ none) : RaisedB K r n H1 E := fun d H' h1 h2 h3 => h d H' (e.fresh hr h1 hr1) (e.trans h2) h3
theorem ok_Reader_expect (S : Top K mg) : HasM P w K mg base (L2.CX P w) "Reader" "expect" 5 P_Reader_expect (sp_expect K) := by
  refine hasM_ofX (cl_Reader S) (me_Reader_expect S) (fn_Reader_expect S) sc_Reader_expect bi_Reader_expect (fun vs H Q E h => ?_) (fun cdv A outer s H vs Q E hr h => ?_)
  · obtain ⟨r, ws, i, wd, z, rfl, _⟩ := h
    rfl
  · obtain ⟨r, ws, i, wd, z, rfl, hR, hw, k1, k2⟩ := h
    refine ⟨_, (pss_cons (ps_if (pt_cmpR op_ne (pe_m0 K (pv 0) (ok_Reader_shown S) (hr.mono (by omega))) (pv 1) (nomark _))
      (pss_one (ps_expr (pe_mS0 K (pv 0) (ok_Reader_refuse S) (hr.mono (by omega)) (takes_of rfl rfl rfl rfl)))) pss_nil)
      (pss_one (ps_expr (pe_m0 K (pv 0) (ok_Reader_go_on S) (hr.mono (by omega)))))), ?_⟩
    obtain ⟨dx, l, h1, h2⟩ := id hR
    refine ⟨_, rfl, r, dx, _, rfl, h1, reader_no _ _ (by decide +kernel) (by decide +kernel), r, ws, i, wd, rfl, hR, hw, fun H1 e1 => ⟨_, rfl, rfl, _, rfl, ?_⟩⟩
    have hR1 := hR.ex e1
    have h1' := e1 _ _ h1
    rw [dec_st]
    refine ite2 (fun hb => ?_) fun hb => ?_
    · have ne : spl wd.2 ≠ z := by simpa using hb
      exact ⟨_, rfl, r, dx, _, rfl, h1', reader_no _ _ (by decide +kernel) (by decide +kernel), r, ws, i, wd, rfl, hR1, hw, (k2 ne).mono (Ex.b e1) hR.there hR1.there⟩
    · have eq : spl wd.2 = z := by simpa using hb
      exact ⟨_, rfl, r, dx, _, rfl, h1', reader_no _ _ (by decide +kernel) (by decide +kernel), r, ws, i, rfl, hR1, fun H2 e2 hR2 => k1 eq H2 ((Ex.b e1).trans e2) hR2⟩
def sp_finish (K : PySem.W.Frag) : Sp := fun vs H Q E => ∃ (r : Addr) (ws : List (Nat × List Nat)) (i : Nat) (wd : Nat × List Nat), vs = [.ref r] ∧ ReaderAt K H r ws i ∧ ws[i]? = some wd ∧
  (i + 1 = ws.length → ∀ H2, ExB r H H2 → ReaderAt K H2 r ws i → Q .non H2) ∧ (i + 1 ≠ ws.length → RaisedB K r wd.1 H E)
theorem ok_Reader_finish (S : Top K mg) : HasM P w K mg base (L2.CX P w) "Reader" "finish" 5 P_Reader_finish (sp_finish K) := by
  refine hasM_ofX (cl_Reader S) (me_Reader_finish S) (fn_Reader_finish S) sc_Reader_finish bi_Reader_finish (fun vs H Q E h => ?_) (fun cdv A outer s H vs Q E hr h => ?_)
  · obtain ⟨r, ws, i, wd, rfl, _⟩ := h
    rfl
  · obtain ⟨r, ws, i, wd, rfl, hR, hw, k1, k2⟩ := h
    refine ⟨_, (pss_one (ps_if (pt_not (pt_val (pe_m0 K (pv 0) (ok_Reader_at_end S) (hr.mono (by omega)))))
      (pss_one (ps_expr (pe_mS0 K (pv 0) (ok_Reader_refuse S) (hr.mono (by omega)) (takes_of rfl rfl rfl rfl)))) pss_nil)), ?_⟩
    obtain ⟨dx, l, h1, h2⟩ := id hR
    have hlen : 0 < ws.length := by have := (List.getElem?_eq_some_iff.mp hw).1; omega
    refine ⟨_, rfl, r, dx, _, rfl, h1, reader_no _ _ (by decide +kernel) (by decide +kernel), r, ws, i, rfl, hR, hlen, fun H1 e1 => ⟨_, rfl, ?_⟩⟩
    have hR1 := hR.ex e1
    have h1' := e1 _ _ h1
    refine ite2 (fun hb => ?_) fun hb => ?_
    · have ne : i + 1 ≠ ws.length := by simpa using hb
      exact ⟨_, rfl, r, dx, _, rfl, h1', reader_no _ _ (by decide +kernel) (by decide +kernel), r, ws, i, wd, rfl, hR1, hw, (k2 ne).mono (Ex.b e1) hR.there hR1.there⟩
    · have eq : i + 1 = ws.length := by simpa using hb
      exact k1 eq H1 (Ex.b e1) hR1
end
end CK
/-! rules as texts -/
namespace CK
open VbpxCore Vbpxaf
theorem joinL_between (s : List Nat) : ∀ ls : List (List Nat), TL.joinL s ls = between s ls
  | [] => rfl
  | [p] => rfl
  | p :: q :: r => by
    show p ++ (s ++ TL.joinL s (q :: r)) = p ++ s ++ between s (q :: r)
    rw [joinL_between s (q :: r), List.append_assoc]
theorem between_cons (s w : List Nat) {l : List (List Nat)} (h : l ≠ []) : between s (w :: l) = w ++ s ++ between s l := by
  cases l with
  | nil => exact absurd rfl h
  | cons a r => rfl
theorem between_app (s : List Nat) : ∀ {a b : List (List Nat)}, a ≠ [] → b ≠ [] → between s (a ++ b) = between s a ++ s ++ between s b
  | [], _, h, _ => absurd rfl h
  | [w], b, _, hb => between_cons s w hb
  | w :: x :: r, b, _, hb => by
    have ih := between_app s (a := x :: r) (b := b) (by simp) hb
    rw [List.cons_append, between_cons s w (by simp), ih, between_cons s w (l := x :: r) (by simp)]
    simp
theorem ruleWords_ne (f : File) : ∀ r : Rule, ruleWords f r ≠ []
  | .who n => by simp [ruleWords]
  | .both a b => by simp [ruleWords]
  | .either a b => by simp [ruleWords]
  | .some_ k l => by simp [ruleWords]
  | .anybody => by simp [ruleWords]
  | .nobody => by simp [ruleWords]
def txt (f : File) (r : Rule) : List Nat := between [32] (ruleWords f r)
def brk (b : Bool) (t : List Nat) : List Nat := if b = true then [40, 32] ++ t ++ [32, 41] else t
theorem brk_eq {b : Bool} {w : List (List Nat)} (h : w ≠ []) : between [32] (bracketed b w) = brk b (between [32] w) := by
  unfold bracketed brk
  cases b with
  | false => rfl
  | true =>
    simp only [if_true]
    rw [between_app [32] (by simp) (by simp), between_app [32] h (by simp)]
    simp [between]
theorem bracketed_ne {b : Bool} {w : List (List Nat)} (h : w ≠ []) : bracketed b w ≠ [] := by
  unfold bracketed
  cases b with
  | false => exact h
  | true => simp
theorem txt_both (f : File) (a b : Rule) : txt f (.both a b) = brk (isEither a) (txt f a) ++ [32, 97, 110, 100, 32] ++ brk (isJoined b) (txt f b) := by
  unfold txt
  rw [ruleWords, between_app [32] (bracketed_ne (ruleWords_ne f a)) (by simp), between_cons [32] _ (bracketed_ne (ruleWords_ne f b)), brk_eq (ruleWords_ne f a), brk_eq (ruleWords_ne f b)]
  have e : W "and" = [97, 110, 100] := by decide +kernel
  rw [e]
  simp
theorem txt_either (f : File) (a b : Rule) : txt f (.either a b) = txt f a ++ [32, 111, 114, 32] ++ brk (isEither b) (txt f b) := by
  unfold txt
  rw [ruleWords, between_app [32] (ruleWords_ne f a) (by simp), between_cons [32] _ (bracketed_ne (ruleWords_ne f b)), brk_eq (ruleWords_ne f b)]
  have e : W "or" = [111, 114] := by decide +kernel
  rw [e]
  simp
theorem txt_some (f : File) (k : Nat) {l : List Nat} (h : l ≠ []) : txt f (.some_ k l) = num k ++ [32, 111, 102, 32, 40, 32] ++ between [32] (l.map (nameOf f)) ++ [32, 41] := by
  unfold txt
  have hm : l.map (nameOf f) ≠ [] := by simpa using h
  rw [ruleWords, between_app [32] (by simp) (by simp), between_app [32] hm (by simp)]
  have e : W "of" = [111, 102] := by decide +kernel
  rw [e]
  simp [between]
theorem num_eq : ∀ k : Fin 7, 0 < k.val → num k.val = [48 + k.val] := by decide +kernel
/-- a bound of a rule's text -/
def rsz : Rule → Nat
  | .who _ => 20
  | .both a b => rsz a + rsz b + 20
  | .either a b => rsz a + rsz b + 20
  | .some_ _ _ => 100
  | .anybody => 20
  | .nobody => 20
/-- a file's officers are such as a text may tell -/
structure Names (f : File) : Prop where
  few : f.officers.length ≤ 6
  good : ∀ x ∈ f.officers, isName x = true
  nodup : f.officers.Nodup
theorem nameOf_len {f : File} (h : Names f) (n : Nat) : (nameOf f n).length ≤ 12 := by
  unfold nameOf
  rw [List.getD]
  cases e : f.officers[n]? with
  | none => simp
  | some x =>
    have := h.good x (List.mem_of_getElem? e)
    unfold isName at this
    simp only [Bool.and_eq_true, decide_eq_true_eq] at this
    exact this.2.1
theorem between_len {s : List Nat} {b : Nat} : ∀ {l : List (List Nat)}, (∀ x ∈ l, x.length ≤ b) → (between s l).length ≤ l.length * (b + s.length)
  | [], _ => by simp [between]
  | [w], h => by
    have := h w (by simp)
    show w.length ≤ 1 * (b + s.length)
    omega
  | w :: x :: r, h => by
    have ih := between_len (s := s) (l := x :: r) fun y hy => h y (List.mem_cons_of_mem _ hy)
    have h1 := h w (by simp)
    rw [between_cons s w (by simp)]
    simp only [List.length_append, List.length_cons] at ih ⊢
    have : (r.length + 1 + 1) * (b + s.length) = (r.length + 1) * (b + s.length) + (b + s.length) := by rw [Nat.add_mul, Nat.one_mul]
    omega
/-- the officers that a rule names are there -/
def RuleOk (f : File) : Rule → Prop
  | .who n => n < count f
  | .both a b => RuleOk f a ∧ RuleOk f b
  | .either a b => RuleOk f a ∧ RuleOk f b
  | .some_ k l => 0 < k ∧ k ≤ 6 ∧ l ≠ [] ∧ l.length ≤ 6 ∧ ∀ n ∈ l, n < count f
  | .anybody => True
  | .nobody => True
theorem brk_len (b : Bool) (t : List Nat) : (brk b t).length ≤ t.length + 4 := by
  unfold brk
  split <;> simp
theorem txt_len {f : File} (hn : Names f) : ∀ {r : Rule}, RuleOk f r → (txt f r).length ≤ rsz r
  | .who n, _ => by
    have := nameOf_len hn n
    show (nameOf f n).length ≤ 20
    omega
  | .both a b, h => by
    have h1 := txt_len hn h.1
    have h2 := txt_len hn h.2
    have h3 := brk_len (isEither a) (txt f a)
    have h4 := brk_len (isJoined b) (txt f b)
    rw [txt_both]
    simp only [List.length_append, List.length_cons, List.length_nil, rsz]
    omega
  | .either a b, h => by
    have h1 := txt_len hn h.1
    have h2 := txt_len hn h.2
    have h4 := brk_len (isEither b) (txt f b)
    rw [txt_either]
    simp only [List.length_append, List.length_cons, List.length_nil, rsz]
    omega
  | .some_ k l, h => by
    obtain ⟨h1, h2, h3, h4, _⟩ := h
    have hb := between_len (s := [32]) (b := 12) (l := l.map (nameOf f)) (by
      intro x hx
      obtain ⟨n, _, rfl⟩ := List.mem_map.mp hx
      exact nameOf_len hn n)
    rw [List.length_map] at hb
    rw [txt_some f k h3, num_eq ⟨k, by omega⟩ h1]
    have h5 : l.length * (12 + [32].length) ≤ 6 * 13 := by
      simp
      omega
    simp only [List.length_append, List.length_cons, List.length_nil, rsz] at hb h5 ⊢
    omega
  | .anybody, _ => by show (W "anybody").length ≤ 20; decide +kernel
  | .nobody, _ => by show (W "nobody").length ≤ 20; decide +kernel
end CK
/-! rules.py -/
namespace CK
open PySem PySem.Spec PyProof.Rows L2 Evl
open Vbpxaf (bit count opens File nameOf isEither isJoined num)
section
variable {P : Program} {w : World} {K : PySem.W.Frag} {mg : Str → Option Value} {base : Heap}
/-! ### texts glued from parts -/
inductive EvJ (σ : L2.St) (H : Hp) : List TE → List (List Nat) → Prop
  | nil : EvJ σ H [] []
  | cons {t : TE} {ts : List TE} {z : List Nat} {zs : List (List Nat)} : Ev t σ H (.str (st z)) → EvJ σ H ts zs → EvJ σ H (t :: ts) (z :: zs)
theorem js_run {σ : L2.St} {H : Hp} {ts : List TE} {zs : List (List Nat)} (h : EvJ σ H ts zs) : ∀ (acc : List Nat), acc.length + zs.flatten.length ≤ 16777216 → ∀ H1, Ex H H1 → ∀ Q : Str → Hp → Prop, (∀ H2, Ex H1 H2 → Q (st (acc ++ zs.flatten)) H2) → tJs ts (st acc) σ H1 Q := by
  induction h with
  | nil =>
    intro acc _ H1 e1 Q q
    have := q H1 (Ex.refl H1)
    simp only [List.flatten_nil, List.append_nil] at this
    exact this
  | @cons t ts z zs ht hts ih =>
    intro acc hz H1 e1 Q q
    simp only [List.flatten_cons, List.length_append] at hz
    refine ht H1 e1 _ fun H2 e2 => ⟨st z, rfl, ?_, ?_⟩
    · rw [st_app, st_len, List.length_append, sizeLine_eq]
      omega
    · rw [st_app]
      refine ih (acc ++ z) (by rw [List.length_append]; omega) H2 (e1.trans e2) Q fun H3 e3 => ?_
      have := q H3 (e2.trans e3)
      simpa using this
theorem ev_js {σ : L2.St} {H : Hp} {ts : List TE} {zs : List (List Nat)} (h : EvJ σ H ts zs) (hz : zs.flatten.length ≤ 16777216) : Ev (fun σ H Q => tJs ts Str.empty σ H fun out H1 => Q (.str out) H1) σ H (.str (st zs.flatten)) := fun H1 e1 Q q => by
  have := js_run h [] (by simpa using hz) H1 e1 (fun out H1 => Q (.str out) H1) fun H2 e2 => q H2 e2
  exact this
theorem ev_fmt {σ : L2.St} {H : Hp} {t : TE} {z : List Nat} (h : Ev t σ H (.str (st z))) (hz : z.length ≤ 16777216) : Ev (tFmt t) σ H (.str (st z)) := fun H1 e1 Q q =>
  h H1 e1 _ fun H2 e2 => .inl ⟨st z, rfl, by rw [st_len, sizeLine_eq]; exact hz, q H2 e2⟩
/-- a comprehension over two lists -/
theorem el_lcZ {σ : L2.St} {H : Hp} {a b : Addr} {xs ys : List V} {ta : TA} {te : TE} {i j : Nat} {vs : List Nat} (v : Nat → V) (h : EvA ta σ H [.ref a, .ref b]) (hx : SqL K H a xs) (hy : SqL K H b ys) (hl : ys.length = xs.length) (hz : xs.length ≤ 40000)
    (hw : ∀ x y, wipe (((wipe σ vs).set i (some x)).set j (some y)) vs = wipe σ vs) (he : ∀ (k : Nat) x y H1, Ex H H1 → xs[k]? = some x → ys[k]? = some y → Ev te (((wipe σ vs).set i (some x)).set j (some y)) H1 (v k)) :
    EvL (tLc (iZip K ta) (gTup K 2 (gCons (gName i) (gCons (gName j) gNil))) tYes te vs) σ H (given xs.length (fun _ => true) v) := fun H0 e Q q => h H0 e _ fun H1 e1 => by
  have ee : Ex H H1 := e.trans e1
  refine ⟨a, b, xs, ys, rfl, ex_l ee hx, ex_l ee hy, fun Dl hD => ?_⟩
  refine lc_it (walk_zip (K := K) (a := a) (b := b) (xs := xs) (ys := ys) (n := xs.length) (by omega)) (Cw H1 (fun _ => true) v Dl) ⟨hD, Ex.new hD, upd_same⟩ (fun k H' _ p => ⟨ex_l (ee.trans p.2.1) hx, ex_l (ee.trans p.2.1) hy⟩) (fun k x H' H'' hk p y => ?_) fun H' p => q Dl H' (fresh_back e1 p.1) (e1.trans p.2.1) p.2.2
  obtain ⟨T, x1, y1, rfl, hT, rfl, h1, h2⟩ := y
  refine ⟨T, _, rfl, st_of upd_same, rfl, _, _, rfl, _, _, rfl, rfl, hw x1 y1, ?_⟩
  have e3 : Ex H' (upd H' T (.tup [x1, y1])) := Ex.new hT
  exact cw_turn (f := fun _ => true) ⟨p.1, p.2.1.trans e3, e3 _ _ p.2.2⟩ (by omega) et_yes fun _ => he k x1 y1 H1 ee h1 h2
/-! ### rules as objects -/
def nmRule : List Str := ["joined_by", "text", "allowed"]
theorem ruleF (x y z : V) : putF "allowed" z (putF "text" y (putF "joined_by" x [])) = nmRule.zip [x, y, z] := by
  have e1 : putF "text" y (putF "joined_by" x []) = ([("joined_by", x), ("text", y)] : List (Str × V)) := (put_past (by decide +kernel)).trans rfl
  rw [e1]
  exact (put_past (by decide +kernel)).trans (congrArg _ ((put_past (by decide +kernel)).trans rfl))
theorem rule_jb (x y z : V) : (nmRule.zip [x, y, z]).lookup ("joined_by" : Str) = some x := lk_here
theorem rule_tx (x y z : V) : (nmRule.zip [x, y, z]).lookup ("text" : Str) = some y := (lk_past (by decide +kernel)).trans lk_here
theorem rule_al (x y z : V) : (nmRule.zip [x, y, z]).lookup ("allowed" : Str) = some z := (lk_past (by decide +kernel)).trans ((lk_past (by decide +kernel)).trans lk_here)
theorem ok_Rule (S : Top K mg) : HasC P w K mg base "Rule" 1 P_Rule_init (sp_rec K "Rule" nmRule) := by
  refine hasC_of (g_Rule S) (mk_Rule S) (fn_Rule_init S) sc_Rule_init bi_Rule_init (fun vs H Q E h => ?_) (fun cdv A outer s H vs Q E hr h => ?_)
  · obtain ⟨p, dx, vals, rfl, hl, _⟩ := h
    show vals.length + 1 = 4
    rw [hl]
    rfl
  · obtain ⟨p, dx, vals, rfl, hl, hp, k⟩ := h
    obtain ⟨x, y, z, rfl⟩ : ∃ x y z, vals = [x, y, z] := by
      match vals, hl with
      | [x, y, z], _ => exact ⟨x, y, z, rfl⟩
    refine ⟨_, (pss_cons (ps_f K (pv 0) (pv 1))
      (pss_cons (ps_f K (pv 0) (pv 2))
      (pss_one (ps_f K (pv 0) (pv 3))))), ?_⟩
    refine ⟨_, rfl, _, rfl, p, _, dx, [], rfl, hp, cl_Rule S, na_Rule_joined_by S, by simp, ?_⟩
    refine ⟨_, rfl, _, rfl, p, _, dx, _, rfl, upd_same, cl_Rule S, na_Rule_text S, by simp [putF], ?_⟩
    refine ⟨_, rfl, _, rfl, p, _, dx, _, rfl, upd_same, cl_Rule S, na_Rule_allowed S, ?_, ?_⟩
    · have e1 : putF "text" y (putF "joined_by" x []) = ([("joined_by", x), ("text", y)] : List (Str × V)) := (put_past (by decide +kernel)).trans rfl
      rw [e1]
      simp
    · rw [upd_upd, upd_upd, ruleF]
      exact k
def RuleObj (K : PySem.W.Frag) (H : Hp) (p : Addr) (jb tx : List Nat) (n : Nat) (g : Nat → Bool) : Prop := ∃ dx l, H p = some (.ins (He.ga K "Rule") dx (nmRule.zip [.str (st jb), .str (st tx), .ref l])) ∧ Tab K H l n g
theorem RuleObj.ex {H H' : Hp} {p : Addr} {jb tx : List Nat} {n : Nat} {g : Nat → Bool} (h : RuleObj K H p jb tx n g) (e : Ex H H') : RuleObj K H' p jb tx n g := by
  obtain ⟨dx, l, h1, h2⟩ := h
  exact ⟨dx, l, e _ _ h1, h2.ex e⟩
def jSingle : List Nat := [115, 105, 110, 103, 108, 101]
def jAnd : List Nat := [97, 110, 100]
def jOr : List Nat := [111, 114]
def jbOf : Vbpxaf.Rule → List Nat
  | .both _ _ => jAnd
  | .either _ _ => jOr
  | _ => jSingle
/-- the rule r over f's officers stands at p -/
def RuleAt (K : PySem.W.Frag) (H : Hp) (p : Addr) (f : File) (r : Vbpxaf.Rule) : Prop := RuleObj K H p (jbOf r) (txt f r) (count f) (opens r)
/-- a new rule is handed back -/
def RetRule (K : PySem.W.Frag) (f : File) (r : Vbpxaf.Rule) (H : Hp) (Q : VK) : Prop := ∀ p H2, H p = none → Ex H H2 → RuleAt K H2 p f r → Q (.ref p) H2
theorem lit_single : ("single" : Str) = st jSingle := by decide +kernel
theorem lit_and : ("and" : Str) = st jAnd := by decide +kernel
theorem lit_or : ("or" : Str) = st jOr := by decide +kernel
/-- return Rule(..), its table a new list -/
theorem ret_rule {σ : L2.St} {H : Hp} {D : Ends} {t1 t2 t3 : TE} {jb tx : List Nat} {n : Nat} {g : Nat → Bool} {E : XK} (hn : n ≤ 6) (h1 : Ev t1 σ H (.str (st jb))) (h2 : Ev t2 σ H (.str (st tx))) (h3 : EvL t3 σ H (tab n g))
    (k : ∀ p H2, H p = none → Ex H H2 → RuleObj K H2 p jb tx n g → D.rt (.ref p) H2) : tRet (tMake (He.ga K "Rule") (sp_rec K "Rule" nmRule) [] E (tCons t1 (tCons t2 (tCons t3 tNil)))) D σ H := by
  refine h1 H (Ex.refl H) _ fun H1 e1 => h2 H1 e1 _ fun H2 e2 => h3 H2 (e1.trans e2) _ fun l H3 hl e3 h4 => fun p dx hp hdx ne => ⟨p, dx, [.str (st jb), .str (st tx), .ref l], by simp, rfl, upd_same, rfl, ?_⟩
  have eH : Ex H H3 := (e1.trans e2).trans e3
  have e4 : Ex H3 (upd (upd (upd H3 dx (.own p)) p (.ins (He.ga K "Rule") dx [])) p (.ins (He.ga K "Rule") dx (nmRule.zip [.str (st jb), .str (st tx), .ref l]))) := fun b o hb => by
    rw [upd_ne (ne_of_none hb hp), upd_ne (ne_of_none hb hp), upd_ne (ne_of_none hb hdx)]
    exact hb
  exact k p _ (fresh_back eH hp) (eH.trans e4) ⟨dx, l, upd_same, hn, sq_of (e4 _ _ h4)⟩
/-- the same, its table at hand -/
theorem ret_ruleA {σ : L2.St} {H : Hp} {D : Ends} {t1 t2 t3 : TE} {jb tx : List Nat} {n : Nat} {g : Nat → Bool} {E : XK} {l : Addr} (h1 : Ev t1 σ H (.str (st jb))) (h2 : Ev t2 σ H (.str (st tx))) (h3 : Ev t3 σ H (.ref l)) (hT : Tab K H l n g)
    (k : ∀ p H2, H p = none → Ex H H2 → RuleObj K H2 p jb tx n g → D.rt (.ref p) H2) : tRet (tMake (He.ga K "Rule") (sp_rec K "Rule" nmRule) [] E (tCons t1 (tCons t2 (tCons t3 tNil)))) D σ H := by
  refine h1 H (Ex.refl H) _ fun H1 e1 => h2 H1 e1 _ fun H2 e2 => h3 H2 (e1.trans e2) _ fun H3 e3 => fun p dx hp hdx ne => ⟨p, dx, [.str (st jb), .str (st tx), .ref l], by simp, rfl, upd_same, rfl, ?_⟩
  have eH : Ex H H3 := (e1.trans e2).trans e3
  have e4 : Ex H3 (upd (upd (upd H3 dx (.own p)) p (.ins (He.ga K "Rule") dx [])) p (.ins (He.ga K "Rule") dx (nmRule.zip [.str (st jb), .str (st tx), .ref l]))) := fun b o hb => by
    rw [upd_ne (ne_of_none hb hp), upd_ne (ne_of_none hb hp), upd_ne (ne_of_none hb hdx)]
    exact hb
  exact k p _ (fresh_back eH hp) (eH.trans e4) ⟨dx, l, upd_same, hT.ex (eH.trans e4)⟩
theorem given_tab (n : Nat) (g : Nat → Bool) : given (nats (List.range (2 ^ n))).length (fun _ => true) (fun i => V.bl (g i)) = tab n g := by
  unfold given
  rw [filter_true, nats_len, List.length_range]
  rfl
theorem range_get {m i c : Nat} (h : (List.range m)[i]? = some c) : c = i ∧ i < m := by
  obtain ⟨h1, h2⟩ := List.getElem?_eq_some_iff.mp h
  rw [List.length_range] at h1
  rw [List.getElem_range] at h2
  exact ⟨h2.symm, h1⟩
theorem el_all {σ : L2.St} {H : Hp} {n : Nat} {ta : TE} {E : XK} (h : Ev ta σ H (.int (n : Int))) (hn : n ≤ 6) : EvL (tCall sp_all_companies [] E (tCons ta tNil)) σ H (nats (List.range (2 ^ n))) :=
  el_h (ea_cons h ea_nil) fun H1 e1 Q E k => ⟨n, rfl, by omega, k⟩
theorem range_z {n : Nat} (hn : n ≤ 6) : (nats (List.range (2 ^ n))).length ≤ 40000 := by
  rw [nats_len, List.length_range]
  have := pow64 hn
  omega
def sp_const (K : PySem.W.Frag) (r : Vbpxaf.Rule) : Sp := fun vs H Q _ => ∃ f : File, vs = [.int (count f : Int)] ∧ count f ≤ 6 ∧ RetRule K f r H Q
theorem ok_anybody_rule (S : Top K mg) : Has P w K mg base CX0 "anybody_rule" 3 P_anybody_rule (sp_const K .anybody) := by
  refine has_of (g_anybody_rule S) (fn_anybody_rule S) sc_anybody_rule bi_anybody_rule (fun vs H Q E h => ?_) (fun cdv A outer s H vs Q E hr h => ?_)
  · obtain ⟨f, rfl, _⟩ := h
    rfl
  · obtain ⟨f, rfl, hn, k⟩ := h
    refine ⟨_, (pss_one (ps_ret (pe_mkK K (ok_Rule S) (hr.mono (by omega)) rfl (pa_cons (pe_gs (g_SINGLE S) rfl) (pa_cons pe_str (pa_cons (pe_lc (own := [("company", 1)]) rfl sc_anybody_rule.nd (piL K (pe_h (ok_all_companies S) (hr.mono (by omega)) rfl (pa_cons (pv 0) pa_nil))) (blkOk_by (own := [("company", 1)]) (N := N_anybody_rule) (sc := defScope s_anybody_rule) (by decide +kernel)) (fun _ _ _ _ _ => (pg_name (i := 1) sc_anybody_rule.nd rfl (Or.inl rfl))) (fun _ _ _ _ _ => pts_nil) (fun _ _ _ _ _ => pe_bl)) pa_nil)))))), ?_⟩
    refine ret_rule (g := fun _ => true) (tx := txt f .anybody) hn (ev_is ev_c (congrArg V.str lit_single)) (ev_is ev_c (congrArg V.str (by decide +kernel : ("anybody" : Str) = st (Vbpxaf.W "anybody")))) (el_is (el_lcNL (fun _ => true) (fun i => V.bl true) (el_all (ev_var rfl) hn) (range_z hn) (fun _ => rfl) (fun i x H1 e1 hi => et_yes) (fun i x H1 e1 hi _ => ev_c)) (given_tab _ fun _ => true)) k
theorem ok_nobody_rule (S : Top K mg) : Has P w K mg base CX0 "nobody_rule" 3 P_nobody_rule (sp_const K .nobody) := by
  refine has_of (g_nobody_rule S) (fn_nobody_rule S) sc_nobody_rule bi_nobody_rule (fun vs H Q E h => ?_) (fun cdv A outer s H vs Q E hr h => ?_)
  · obtain ⟨f, rfl, _⟩ := h
    rfl
  · obtain ⟨f, rfl, hn, k⟩ := h
    refine ⟨_, (pss_one (ps_ret (pe_mkK K (ok_Rule S) (hr.mono (by omega)) rfl (pa_cons (pe_gs (g_SINGLE S) rfl) (pa_cons pe_str (pa_cons (pe_lc (own := [("company", 1)]) rfl sc_nobody_rule.nd (piL K (pe_h (ok_all_companies S) (hr.mono (by omega)) rfl (pa_cons (pv 0) pa_nil))) (blkOk_by (own := [("company", 1)]) (N := N_nobody_rule) (sc := defScope s_nobody_rule) (by decide +kernel)) (fun _ _ _ _ _ => (pg_name (i := 1) sc_nobody_rule.nd rfl (Or.inl rfl))) (fun _ _ _ _ _ => pts_nil) (fun _ _ _ _ _ => pe_bl)) pa_nil)))))), ?_⟩
    refine ret_rule (g := fun _ => false) (tx := txt f .nobody) hn (ev_is ev_c (congrArg V.str lit_single)) (ev_is ev_c (congrArg V.str (by decide +kernel : ("nobody" : Str) = st (Vbpxaf.W "nobody")))) (el_is (el_lcNL (fun _ => true) (fun i => V.bl false) (el_all (ev_var rfl) hn) (range_z hn) (fun _ => rfl) (fun i x H1 e1 hi => et_yes) (fun i x H1 e1 hi _ => ev_c)) (given_tab _ fun _ => false)) k
/-- the officers' names stand at a -/
def nmsV (l : List (List Nat)) : List V := l.map fun b => V.str (st b)
def NamesAt (K : PySem.W.Frag) (H : Hp) (a : Addr) (f : File) : Prop := H a = some (.lst (nmsV f.officers)) ∧ Names f
theorem NamesAt.ex {H H' : Hp} {a : Addr} {f : File} (h : NamesAt K H a f) (e : Ex H H') : NamesAt K H' a f := ⟨e _ _ h.1, h.2⟩
theorem nmsV_len (l : List (List Nat)) : (nmsV l).length = l.length := by simp [nmsV]
theorem name_at {f : File} {n : Nat} (h : n < count f) : atI (nmsV f.officers) (n : Int) = some (V.str (st (nameOf f n))) := by
  refine atI_nat ?_
  have h' : n < f.officers.length := h
  simp [nmsV, nameOf, h']
theorem ev_name {σ : L2.St} {H : Hp} {a : Addr} {f : File} {n : Nat} {ta tb : TE} (h : NamesAt K H a f) (hn : n < count f) (h1 : Ev ta σ H (.ref a)) (h2 : Ev tb σ H (.int (n : Int))) : Ev (tOp (rIxL K) ta tb) σ H (.str (st (nameOf f n))) :=
  ev_op h1 h2 (rv_ixL (sq_of h.1) (name_at hn))
theorem ev_count {σ : L2.St} {H : Hp} {a : Addr} {f : File} {ta : TE} (h : NamesAt K H a f) (h1 : Ev ta σ H (.ref a)) : Ev (tCB (rLenS K) (tCons ta tNil)) σ H (.int (count f : Int)) := ev_is (ev_len h1 (sq_of h.1)) (by rw [nmsV_len]; rfl)
def sp_officer_rule (K : PySem.W.Frag) : Sp := fun vs H Q _ => ∃ (a : Addr) (f : File) (n : Nat), vs = [.ref a, .int (n : Int)] ∧ NamesAt K H a f ∧ n < count f ∧ RetRule K f (.who n) H Q
theorem ok_officer_rule (S : Top K mg) : Has P w K mg base CX0 "officer_rule" 3 P_officer_rule (sp_officer_rule K) := by
  refine has_of (g_officer_rule S) (fn_officer_rule S) sc_officer_rule bi_officer_rule (fun vs H Q E h => ?_) (fun cdv A outer s H vs Q E hr h => ?_)
  · obtain ⟨a, f, n, rfl, _⟩ := h
    rfl
  · obtain ⟨a, f, n, rfl, hN, hn, k⟩ := h
    refine ⟨_, (pss_cons (ps_set (i := 2) sc_officer_rule.nd rfl (Or.inl rfl) (pe_h (ok_all_companies S) (hr.mono (by omega)) rfl (pa_cons (pe_callB (cLen K) (by rfl) (n_len S) PySem.boot_len (pa_cons (pv 0) pa_nil)) pa_nil)))
      (pss_one (ps_ret (pe_mkK K (ok_Rule S) (hr.mono (by omega)) rfl (pa_cons (pe_gs (g_SINGLE S) rfl) (pa_cons (pe_ix (ixL K) (pv 0) (pv 1) (fun _ _ => rfl)) (pa_cons (pe_lc (own := [("company", 3)]) rfl sc_officer_rule.nd (piL K (pv 2)) (blkOk_by (own := [("company", 3)]) (N := N_officer_rule) (sc := defScope s_officer_rule) (by decide +kernel)) (fun _ _ _ _ _ => (pg_name (i := 3) sc_officer_rule.nd rfl (Or.inl rfl))) (fun _ _ _ _ _ => pts_nil) (fun _ _ _ _ _ => (pe_h (ok_has S) (hr.mono (by omega)) rfl (pa_cons (pv 3) (pa_cons (pv 1) pa_nil))))) pa_nil))))))), ?_⟩
    have h6 : count f ≤ 6 := hN.2.few
    refine q_asgL (el_all (ev_count hN (ev_var rfl)) h6) fun p H1 hp e1 h1 => ?_
    refine ret_rule (g := fun c => bit c n) (tx := txt f (.who n)) h6 (ev_is ev_c (congrArg V.str lit_single)) (ev_name (hN.ex e1) hn (ev_var rfl) (ev_var rfl)) (el_is (el_lcL (fun _ => true) (fun i => V.bl (bit i n)) (ev_var rfl) (sq_of h1) (range_z h6) (fun _ => rfl) (fun i x H1 e1 hi => et_yes) (fun i x H2 e2 hi _ => ?_)) (given_tab _ fun c => bit c n)) fun q H2 hq e2 hR => k q H2 (fresh_back e1 hq) (e1.trans e2) hR
    obtain ⟨c, hc, rfl⟩ := nats_at hi
    obtain ⟨rfl, hlt⟩ := range_get hc
    exact ev_has (ev_var rfl) (ev_var rfl) (by have := pow64 h6; omega) (by omega)
def sp_how_many (K : PySem.W.Frag) : Sp := fun vs H Q _ => ∃ (a : Addr) (l : List Nat) (c : Nat), vs = [.int (c : Int), .ref a] ∧ SqL K H a (nats l) ∧ l.length ≤ 6 ∧ (∀ n ∈ l, n < 6) ∧ c < 64 ∧ RetV (.int ((l.filter (bit c)).length : Nat)) H Q
theorem ok_how_many_in (S : Top K mg) : Has P w K mg base CX0 "how_many_in" 2 P_how_many_in (sp_how_many K) := by
  refine has_of (g_how_many_in S) (fn_how_many_in S) sc_how_many_in bi_how_many_in (fun vs H Q E h => ?_) (fun cdv A outer s H vs Q E hr h => ?_)
  · obtain ⟨a, l, c, rfl, _⟩ := h
    rfl
  · obtain ⟨a, l, c, rfl, hL, hz, h6, hc, k⟩ := h
    refine ⟨_, (pss_one (ps_ret (pe_callB (cLen K) (by rfl) (n_len S) PySem.boot_len (pa_cons (pe_lc (own := [("officer", 2)]) rfl sc_how_many_in.nd (piL K (pv 1)) (blkOk_by (own := [("officer", 2)]) (N := N_how_many_in) (sc := defScope s_how_many_in) (by decide +kernel)) (fun _ _ _ _ _ => (pg_name (i := 2) sc_how_many_in.nd rfl (Or.inl rfl))) (fun _ _ _ _ _ => (pts_one (pt_val (pe_h (ok_has S) (hr.mono (by omega)) rfl (pa_cons (pv 0) (pa_cons (pv 2) pa_nil)))))) (fun _ _ _ _ _ => (pv 2))) pa_nil)))), ?_⟩
    have hz' : (nats l).length ≤ 40000 := by rw [nats_len]; omega
    refine s_ret (ev_is (ev_lenN (el_lcL (fun i => bit c (l.getD i 0)) (fun i => V.int (l.getD i 0 : Nat)) (ev_var rfl) hL hz' (fun _ => rfl) (fun i x H1 e1 hi => ?_) (fun i x H1 e1 hi _ => ?_))) ?_) k
    · obtain ⟨n, hn, rfl⟩ := nats_at hi
      rw [getD_of hn]
      exact et_B (ev_has (ev_var rfl) (ev_var rfl) hc (h6 n (List.mem_of_getElem? hn)))
    · obtain ⟨n, hn, rfl⟩ := nats_at hi
      rw [getD_of hn]
      exact ev_var rfl
    · rw [nats_len, given_filter 0 (fun n => bit c n) (fun n => V.int (n : Nat)), List.length_map]
theorem num_txt : ∀ k : Fin 7, 0 < k.val → (toString ((k.val : Nat) : Int) : Str) = st (num k.val) := by decide +kernel
def sp_so_many (K : PySem.W.Frag) : Sp := fun vs H Q _ => ∃ (a b : Addr) (f : File) (m : Nat) (l : List Nat), vs = [.ref a, .int (m : Int), .ref b] ∧ NamesAt K H a f ∧ SqL K H b (nats l) ∧ RuleOk f (.some_ m l) ∧ RetRule K f (.some_ m l) H Q
theorem ev_fmtI {σ : L2.St} {H : Hp} {t : TE} {k : Nat} (h : Ev t σ H (.int (k : Int))) (h1 : 0 < k) (h2 : k ≤ 6) : Ev (tFmt t) σ H (.str (st (num k))) := fun H1 e1 Q q =>
  h H1 e1 _ fun H2 e2 => .inr ⟨k, rfl, by
    have : k < 7 := by omega
    match k, this with
    | 0, _ => decide | 1, _ => decide | 2, _ => decide | 3, _ => decide | 4, _ => decide | 5, _ => decide | 6, _ => decide, by
    rw [num_txt ⟨k, by omega⟩ h1]
    exact q H2 e2⟩
theorem ok_so_many_rule (S : Top K mg) : Has P w K mg base CX0 "so_many_rule" 3 P_so_many_rule (sp_so_many K) := by
  refine has_of (g_so_many_rule S) (fn_so_many_rule S) sc_so_many_rule bi_so_many_rule (fun vs H Q E h => ?_) (fun cdv A outer s H vs Q E hr h => ?_)
  · obtain ⟨a, b, f, m, l, rfl, _⟩ := h
    rfl
  · obtain ⟨a, b, f, m, l, rfl, hN, hL, hok, k⟩ := h
    refine ⟨_, (pss_cons (ps_set (i := 3) sc_so_many_rule.nd rfl (Or.inl rfl) (pe_h (ok_all_companies S) (hr.mono (by omega)) rfl (pa_cons (pe_callB (cLen K) (by rfl) (n_len S) PySem.boot_len (pa_cons (pv 0) pa_nil)) pa_nil)))
      (pss_cons (ps_set (i := 4) sc_so_many_rule.nd rfl (Or.inl rfl) (pe_jn K pe_str (pe_lc (own := [("officer", 7)]) rfl sc_so_many_rule.nd (piL K (pv 2)) (blkOk_by (own := [("officer", 7)]) (N := N_so_many_rule) (sc := defScope s_so_many_rule) (by decide +kernel)) (fun _ _ _ _ _ => (pg_name (i := 7) sc_so_many_rule.nd rfl (Or.inl rfl))) (fun _ _ _ _ _ => pts_nil) (fun _ _ _ _ _ => (pe_ix (ixL K) (pv 0) (pv 7) (fun _ _ => rfl))))))
      (pss_cons (ps_setLc (i := 5) (own := [("company", 6)]) rfl sc_so_many_rule.nd rfl rfl (sw_true rfl rfl rfl (by decide +kernel)) (piL K (pv 3)) (blkOk_by (own := [("company", 6)]) (N := N_so_many_rule) (sc := defScope s_so_many_rule) (by decide +kernel)) (fun _ _ _ _ _ => (pg_name (i := 6) sc_so_many_rule.nd rfl (Or.inl rfl))) (fun _ _ _ _ _ => pts_nil) (fun _ _ _ _ _ => (pe_cmpR op_ge (pe_h (ok_how_many_in S) (hr.mono (by omega)) rfl (pa_cons (pv 6) (pa_cons (pv 2) pa_nil))) (pv 1) (nomark _))))
      (pss_one (ps_ret (pe_mkK K (ok_Rule S) (hr.mono (by omega)) rfl (pa_cons (pe_gs (g_SINGLE S) rfl) (pa_cons (pe_joined (PJ.cons (pe_fmt (pv 1)) (PJ.cons pe_str (PJ.cons (pe_fmt (pv 4)) (PJ.cons pe_str PJ.nil))))) (pa_cons (pv 5) pa_nil))))))))), ?_⟩
    obtain ⟨m1, m6, lne, l6, lin⟩ := id hok
    have h6 : count f ≤ 6 := hN.2.few
    have hz' : (nats l).length ≤ 40000 := by rw [nats_len]; omega
    refine q_asgL (el_all (ev_count hN (ev_var rfl)) h6) fun p H1 hp e1 h1 => ?_
    have hlen : ∀ x ∈ l.map (nameOf f), x.length ≤ 12 := fun x hx => by
      obtain ⟨n, _, rfl⟩ := List.mem_map.mp hx
      exact nameOf_len hN.2 n
    have hsum : ∀ {ls : List (List Nat)}, (∀ x ∈ ls, x.length ≤ 12) → (ls.map List.length).sum ≤ 12 * ls.length := by
      intro ls h
      induction ls with
      | nil => simp
      | cons x r ih =>
        have h1 := h x (by simp)
        have h2 := ih fun y hy => h y (List.mem_cons_of_mem _ hy)
        simp only [List.map_cons, List.sum_cons, List.length_cons]
        omega
    refine q_asg (v := .str (st (VbpxCore.between [32] (l.map (nameOf f))))) (ev_is (ev_join (s := [32]) (ls := l.map (nameOf f)) (ev_is ev_c (by decide +kernel)) (el_is (el_lcL (fun _ => true) (fun i => V.str (st (nameOf f (l.getD i 0)))) (ev_var rfl) (ex_l e1 hL) hz' (fun _ => rfl) (fun i x H1 e1 hi => et_yes) (fun i x H2 e2 hi _ => ?_)) ?_) ?_) ?_) fun H2 e2 => ?_
    · obtain ⟨n, hn, rfl⟩ := nats_at hi
      rw [getD_of hn]
      exact ev_name (hN.ex (e1.trans e2)) (lin n (List.mem_of_getElem? hn)) (ev_var rfl) (ev_var rfl)
    · rw [nats_len, given_all 0 (fun n => V.str (st (nameOf f n))), List.map_map]
      rfl
    · have h3 := hsum hlen
      rw [List.length_map] at h3 ⊢
      simp only [List.length_cons, List.length_nil]
      omega
    · rw [joinL_between]
    have e12 : Ex H H2 := e1.trans e2
    refine q_asgL (el_is (el_lcL (fun _ => true) (fun i => V.bl (opens (.some_ m l) i)) (ev_var rfl) (sq_of (e2 _ _ h1)) (range_z h6) (fun _ => rfl) (fun i x H1 e1 hi => et_yes) (fun i x H3 e3 hi _ => ?_)) (given_tab _ (opens (.some_ m l)))) fun q H3 hq e3 h3 => ?_
    · obtain ⟨c, hc, rfl⟩ := nats_at hi
      obtain ⟨rfl, hlt⟩ := range_get hc
      refine ev_is (ev_op (ev_h (ea_cons (ev_var rfl) (ea_cons (ev_var rfl) ea_nil)) fun H4 e4 Q E q => ⟨b, l, c, rfl, ex_l ((e12.trans e3).trans e4) hL, l6, fun n hn => by have := lin n hn; omega, by have := pow64 h6; omega, q⟩) (ev_var rfl) rv_I0) ?_
      exact congrArg V.bl (decide_eq_decide.mpr (by omega))
    · have hbt := between_len (s := [32]) hlen
      rw [List.length_map] at hbt
      have h5 : l.length * (12 + [32].length) ≤ 78 := by simp; omega
      refine ret_ruleA (g := opens (.some_ m l)) (tx := txt f (.some_ m l)) (ev_is ev_c (congrArg V.str lit_single)) (ev_is (ev_js (zs := [num m, [32, 111, 102, 32, 40, 32], VbpxCore.between [32] (l.map (nameOf f)), [32, 41]]) (.cons (ev_fmtI (ev_var rfl) m1 m6) (.cons (ev_is ev_c (by decide +kernel)) (.cons (ev_fmt (ev_var rfl) (by omega)) (.cons (ev_is ev_c (by decide +kernel)) .nil)))) ?_) ?_) (ev_var rfl) ⟨h6, sq_of h3⟩ fun q2 H4 hq2 e4 hR => k q2 H4 (fresh_back (e12.trans e3) hq2) ((e12.trans e3).trans e4) hR
      · simp only [List.flatten_cons, List.flatten_nil, List.length_append, List.length_cons, List.length_nil, num_eq ⟨m, by omega⟩ m1]
        omega
      · rw [txt_some f m lne]
        simp
def sp_brackets : Sp := fun vs H Q _ => ∃ z : List Nat, vs = [.str (st z)] ∧ z.length ≤ 10000000 ∧ RetV (.str (st ([40, 32] ++ z ++ [32, 41]))) H Q
theorem ok_in_brackets (S : Top K mg) : Has P w K mg base CX0 "in_brackets" 1 P_in_brackets sp_brackets := by
  refine has_of (g_in_brackets S) (fn_in_brackets S) sc_in_brackets bi_in_brackets (fun vs H Q E h => ?_) (fun cdv A outer s H vs Q E hr h => ?_)
  · obtain ⟨z, rfl, _⟩ := h
    rfl
  · obtain ⟨z, rfl, hz, k⟩ := h
    refine ⟨_, (pss_one (ps_ret (pe_joined (PJ.cons pe_str (PJ.cons (pe_fmt (pv 0)) (PJ.cons pe_str PJ.nil)))))), ?_⟩
    refine s_ret (ev_is (ev_js (zs := [[40, 32], z, [32, 41]]) (.cons (ev_is ev_c (by decide +kernel)) (.cons (ev_fmt (ev_var rfl) (by omega)) (.cons (ev_is ev_c (by decide +kernel)) .nil))) ?_) ?_) k
    · simp
      omega
    · simp
theorem ev_brk {σ : L2.St} {H : Hp} {t : TE} {z : List Nat} {E : XK} (h : Ev t σ H (.str (st z))) (hz : z.length ≤ 10000000) : Ev (tCall sp_brackets [] E (tCons t tNil)) σ H (.str (st ([40, 32] ++ z ++ [32, 41]))) :=
  ev_h (ea_cons h ea_nil) fun H1 e1 Q E k => ⟨z, rfl, hz, k⟩
theorem jb_or (r : Vbpxaf.Rule) : decide (jbOf r = jOr) = isEither r := by cases r <;> rfl
theorem jb_single (r : Vbpxaf.Rule) : decide (jbOf r = jSingle) = !isJoined r := by cases r <;> rfl
theorem tab_get {n i : Nat} {g : Nat → Bool} {x : V} (h : (tab n g)[i]? = some x) : x = V.bl (g i) ∧ i < 2 ^ n := by
  unfold tab at h
  rw [List.getElem?_map] at h
  obtain ⟨c, hc, rfl⟩ := Option.map_eq_some_iff.mp h
  obtain ⟨rfl, hlt⟩ := range_get hc
  exact ⟨rfl, hlt⟩
theorem given_tab' (n : Nat) (g g' : Nat → Bool) : given (tab n g').length (fun _ => true) (fun i => V.bl (g i)) = tab n g := by
  unfold given
  rw [filter_true, tab_len]
  rfl
def sp_join (K : PySem.W.Frag) (op : Vbpxaf.Rule → Vbpxaf.Rule → Vbpxaf.Rule) : Sp := fun vs H Q _ => ∃ (p q : Addr) (f : File) (a b : Vbpxaf.Rule), vs = [.ref p, .ref q] ∧ RuleAt K H p f a ∧ RuleAt K H q f b ∧ (txt f a).length ≤ 5000000 ∧ (txt f b).length ≤ 5000000 ∧ RetRule K f (op a b) H Q
theorem brk_len' {b : Bool} {t : List Nat} (h : t.length ≤ 5000000) : (brk b t).length ≤ 5000004 := Nat.le_trans (brk_len b t) (by omega)
theorem ok_and_rule (S : Top K mg) : Has P w K mg base CX0 "and_rule" 3 P_and_rule (sp_join K .both) := by
  refine has_of (g_and_rule S) (fn_and_rule S) sc_and_rule bi_and_rule (fun vs H Q E h => ?_) (fun cdv A outer s H vs Q E hr h => ?_)
  · obtain ⟨p, q, f, a, b, rfl, _⟩ := h
    rfl
  · obtain ⟨p, q, f, a, b, rfl, ⟨dp, lp, hp, tp⟩, ⟨dq, lq, hq, tq⟩, za, zb, k⟩ := h
    refine ⟨_, (pss_cons (ps_set (i := 2) sc_and_rule.nd rfl (Or.inl rfl) (pe_ifExp (pt_cmpR op_eq (pe_f K (pv 0)) (pe_gs (g_OR S) rfl) (nomark _)) (pe_h (ok_in_brackets S) (hr.mono (by omega)) rfl (pa_cons (pe_f K (pv 0)) pa_nil)) (pe_f K (pv 0))))
      (pss_cons (ps_set (i := 3) sc_and_rule.nd rfl (Or.inl rfl) (pe_ifExp (pt_cmpR op_eq (pe_f K (pv 1)) (pe_gs (g_SINGLE S) rfl) (nomark _)) (pe_f K (pv 1)) (pe_h (ok_in_brackets S) (hr.mono (by omega)) rfl (pa_cons (pe_f K (pv 1)) pa_nil))))
      (pss_cons (ps_setLc (i := 4) (own := [("one", 5), ("other", 6)]) rfl sc_and_rule.nd rfl rfl (sw_true rfl rfl rfl (by decide +kernel)) (piZ K (by rfl) (n_zip S) (pa_cons (pe_f K (pv 0)) (pa_cons (pe_f K (pv 1)) pa_nil))) (blkOk_by (own := [("one", 5), ("other", 6)]) (N := N_and_rule) (sc := defScope s_and_rule) (by decide +kernel)) (fun _ _ _ _ _ => (pgT K 2 (pgs_cons (pg_name (i := 5) sc_and_rule.nd rfl (Or.inl rfl)) (pgs_cons (pg_name (i := 6) sc_and_rule.nd rfl (Or.inl rfl)) pgs_nil)))) (fun _ _ _ _ _ => pts_nil) (fun _ _ _ _ _ => (pe_and (pv 5) (pe_one (pv 6)))))
      (pss_one (ps_ret (pe_mkK K (ok_Rule S) (hr.mono (by omega)) rfl (pa_cons (pe_gs (g_AND S) rfl) (pa_cons (pe_joined (PJ.cons (pe_fmt (pv 2)) (PJ.cons pe_str (PJ.cons (pe_fmt (pv 3)) PJ.nil)))) (pa_cons (pv 4) pa_nil))))))))), ?_⟩
    refine q_asg (v := .str (st (brk (isEither a) (txt f a)))) (ev_if (b := isEither a) (et_is (et_test (ev_op (ev_fld (ev_var rfl) hp (cl_Rule S) (na_Rule_joined_by S) (rule_jb _ _ _)) (ev_is ev_c (congrArg V.str lit_or)) (rv_eq rfl))) (by rw [dec_st, jb_or])) (fun hb => ?_) fun hb => ?_) fun H1 e1 => ?_
    · rw [hb]
      exact ev_brk (ev_fld (ev_var rfl) hp (cl_Rule S) (na_Rule_text S) (rule_tx _ _ _)) (by omega)
    · rw [hb]
      exact ev_fld (ev_var rfl) hp (cl_Rule S) (na_Rule_text S) (rule_tx _ _ _)
    have hp1 := e1 _ _ hp
    have hq1 := e1 _ _ hq
    refine q_asg (v := .str (st (brk (isJoined b) (txt f b)))) (ev_if (b := !isJoined b) (et_is (et_test (ev_op (ev_fld (ev_var rfl) hq1 (cl_Rule S) (na_Rule_joined_by S) (rule_jb _ _ _)) (ev_is ev_c (congrArg V.str lit_single)) (rv_eq rfl))) (by rw [dec_st, jb_single])) (fun hb => ?_) fun hb => ?_) fun H2 e2 => ?_
    · have hj : isJoined b = false := by simpa using hb
      rw [hj]
      exact ev_fld (ev_var rfl) hq1 (cl_Rule S) (na_Rule_text S) (rule_tx _ _ _)
    · have hj : isJoined b = true := by simpa using hb
      rw [hj]
      exact ev_brk (ev_fld (ev_var rfl) hq1 (cl_Rule S) (na_Rule_text S) (rule_tx _ _ _)) (by omega)
    have e12 : Ex H H2 := e1.trans e2
    have hz : (tab (count f) (opens a)).length ≤ 40000 := by rw [tab_len]; have := pow64 tp.1; omega
    refine q_asgL (el_is (el_lcZ (fun i => V.bl (opens (.both a b) i)) (ea_cons (ev_fld (ev_var rfl) (e12 _ _ hp) (cl_Rule S) (na_Rule_allowed S) (rule_al _ _ _)) (ea_cons (ev_fld (ev_var rfl) (e12 _ _ hq) (cl_Rule S) (na_Rule_allowed S) (rule_al _ _ _)) ea_nil)) (ex_l e12 tp.2) (ex_l e12 tq.2) (by rw [tab_len, tab_len]) hz (fun _ _ => rfl) (fun i x y H3 e3 hx hy => ?_)) (given_tab' _ _ _)) fun t H3 ht e3 h3 => ?_
    · obtain ⟨rfl, _⟩ := tab_get hx
      obtain ⟨rfl, _⟩ := tab_get hy
      exact ev_andV (ev_var rfl) fun _ => ev_var rfl
    · have ha := brk_len' (b := isEither a) za
      have hb := brk_len' (b := isJoined b) zb
      refine ret_ruleA (g := opens (.both a b)) (tx := txt f (.both a b)) (ev_is ev_c (congrArg V.str lit_and)) (ev_is (ev_js (zs := [brk (isEither a) (txt f a), [32, 97, 110, 100, 32], brk (isJoined b) (txt f b)]) (.cons (ev_fmt (ev_var rfl) (by omega)) (.cons (ev_is ev_c (by decide +kernel)) (.cons (ev_fmt (ev_var rfl) (by omega)) .nil))) ?_) ?_) (ev_var rfl) ⟨tp.1, sq_of h3⟩ fun q2 H4 hq2 e4 hR => k q2 H4 (fresh_back (e12.trans e3) hq2) ((e12.trans e3).trans e4) hR
      · simp only [List.flatten_cons, List.flatten_nil, List.length_append, List.length_cons, List.length_nil]
        omega
      · rw [txt_both]
        simp
theorem ok_or_rule (S : Top K mg) : Has P w K mg base CX0 "or_rule" 3 P_or_rule (sp_join K .either) := by
  refine has_of (g_or_rule S) (fn_or_rule S) sc_or_rule bi_or_rule (fun vs H Q E h => ?_) (fun cdv A outer s H vs Q E hr h => ?_)
  · obtain ⟨p, q, f, a, b, rfl, _⟩ := h
    rfl
  · obtain ⟨p, q, f, a, b, rfl, ⟨dp, lp, hp, tp⟩, ⟨dq, lq, hq, tq⟩, za, zb, k⟩ := h
    refine ⟨_, (pss_cons (ps_set (i := 2) sc_or_rule.nd rfl (Or.inl rfl) (pe_f K (pv 0)))
      (pss_cons (ps_set (i := 3) sc_or_rule.nd rfl (Or.inl rfl) (pe_ifExp (pt_cmpR op_eq (pe_f K (pv 1)) (pe_gs (g_OR S) rfl) (nomark _)) (pe_h (ok_in_brackets S) (hr.mono (by omega)) rfl (pa_cons (pe_f K (pv 1)) pa_nil)) (pe_f K (pv 1))))
      (pss_cons (ps_setLc (i := 4) (own := [("one", 5), ("other", 6)]) rfl sc_or_rule.nd rfl rfl (sw_true rfl rfl rfl (by decide +kernel)) (piZ K (by rfl) (n_zip S) (pa_cons (pe_f K (pv 0)) (pa_cons (pe_f K (pv 1)) pa_nil))) (blkOk_by (own := [("one", 5), ("other", 6)]) (N := N_or_rule) (sc := defScope s_or_rule) (by decide +kernel)) (fun _ _ _ _ _ => (pgT K 2 (pgs_cons (pg_name (i := 5) sc_or_rule.nd rfl (Or.inl rfl)) (pgs_cons (pg_name (i := 6) sc_or_rule.nd rfl (Or.inl rfl)) pgs_nil)))) (fun _ _ _ _ _ => pts_nil) (fun _ _ _ _ _ => (pe_or (pv 5) (pe_one (pv 6)))))
      (pss_one (ps_ret (pe_mkK K (ok_Rule S) (hr.mono (by omega)) rfl (pa_cons (pe_gs (g_OR S) rfl) (pa_cons (pe_joined (PJ.cons (pe_fmt (pv 2)) (PJ.cons pe_str (PJ.cons (pe_fmt (pv 3)) PJ.nil)))) (pa_cons (pv 4) pa_nil))))))))), ?_⟩
    refine q_asg (v := .str (st (txt f a))) (ev_fld (ev_var rfl) hp (cl_Rule S) (na_Rule_text S) (rule_tx _ _ _)) fun H1 e1 => ?_
    have hp1 := e1 _ _ hp
    have hq1 := e1 _ _ hq
    refine q_asg (v := .str (st (brk (isEither b) (txt f b)))) (ev_if (b := isEither b) (et_is (et_test (ev_op (ev_fld (ev_var rfl) hq1 (cl_Rule S) (na_Rule_joined_by S) (rule_jb _ _ _)) (ev_is ev_c (congrArg V.str lit_or)) (rv_eq rfl))) (by rw [dec_st, jb_or])) (fun hb => ?_) fun hb => ?_) fun H2 e2 => ?_
    · rw [hb]
      exact ev_brk (ev_fld (ev_var rfl) hq1 (cl_Rule S) (na_Rule_text S) (rule_tx _ _ _)) (by omega)
    · rw [hb]
      exact ev_fld (ev_var rfl) hq1 (cl_Rule S) (na_Rule_text S) (rule_tx _ _ _)
    have e12 : Ex H H2 := e1.trans e2
    have hz : (tab (count f) (opens a)).length ≤ 40000 := by rw [tab_len]; have := pow64 tp.1; omega
    refine q_asgL (el_is (el_lcZ (fun i => V.bl (opens (.either a b) i)) (ea_cons (ev_fld (ev_var rfl) (e12 _ _ hp) (cl_Rule S) (na_Rule_allowed S) (rule_al _ _ _)) (ea_cons (ev_fld (ev_var rfl) (e12 _ _ hq) (cl_Rule S) (na_Rule_allowed S) (rule_al _ _ _)) ea_nil)) (ex_l e12 tp.2) (ex_l e12 tq.2) (by rw [tab_len, tab_len]) hz (fun _ _ => rfl) (fun i x y H3 e3 hx hy => ?_)) (given_tab' _ _ _)) fun t H3 ht e3 h3 => ?_
    · obtain ⟨rfl, _⟩ := tab_get hx
      obtain ⟨rfl, _⟩ := tab_get hy
      exact ev_orV (ev_var rfl) fun _ => ev_var rfl
    · have hb := brk_len' (b := isEither b) zb
      refine ret_ruleA (g := opens (.either a b)) (tx := txt f (.either a b)) (ev_is ev_c (congrArg V.str lit_or)) (ev_is (ev_js (zs := [txt f a, [32, 111, 114, 32], brk (isEither b) (txt f b)]) (.cons (ev_fmt (ev_var rfl) (by omega)) (.cons (ev_is ev_c (by decide +kernel)) (.cons (ev_fmt (ev_var rfl) (by omega)) .nil))) ?_) ?_) (ev_var rfl) ⟨tp.1, sq_of h3⟩ fun q2 H4 hq2 e4 hR => k q2 H4 (fresh_back (e12.trans e3) hq2) ((e12.trans e3).trans e4) hR
      · simp only [List.flatten_cons, List.flatten_nil, List.length_append, List.length_cons, List.length_nil]
        omega
      · rw [txt_either]
        simp
end
end CK
/-! sum, max and min of a list with default=, setdefault by a tuple, a comprehension over enumerate -/
namespace CK
open PySem PySem.Spec PyProof.Rows L2 Evl
theorem boot_sum' : bootBuiltins "sum" = some (.builtin "sum") := by decide +kernel
theorem boot_max' : bootBuiltins "max" = some (.builtin "max") := by decide +kernel
theorem boot_min' : bootBuiltins "min" = some (.builtin "min") := by decide +kernel
section
variable {X : Cx}
theorem cSum (K : PySem.W.Frag) (hc : X.calm = true := by rfl) (h : X.K = K := by rfl) : CallR X (.builtin "sum") (rSum K) := by subst h; exact cr_sum hc
theorem cListOf (K : PySem.W.Frag) (h : X.K = K := by rfl) : CallR X (.type "list") (rListS K) := by subst h; exact call_list_of
/-! ### max, min with default= -/
section
variable {prog : Program} {w : World} {A : Around} {E : Value → Shared → Prop} {s : Shared} {l : Addr} {its : List Value} {ns : List Int} {Q : Value → Shared → Prop} {d : Value}
theorem max_rawD (hh : A.handled = none) (hl : s.heap.IsList l its.toArray) (hi : IntsAre its ns)
    (h0 : ns = [] → ∀ h' tk, (∀ b o, s.heap.get? b = some o → h'.get? b = some o) → Q d { s with heap := h', toks := tk })
    (h : ∀ h' tk M t', (∀ b o, s.heap.get? b = some o → h'.get? b = some o) → M ∈ ns → (∀ a, a ∈ ns → a ≤ M) → Q (.int M t') { s with heap := h', toks := tk }) : wpAny (model prog w) A (call (.builtin "max") [.ref l] [(Str.ofString "default", d)]) Q E s := by
  obtain ⟨xs, e⟩ := hi.allInts.items
  have hn : numsOf (intItems xs).toList = ns := by rw [← e]; exact hi.numsOf
  rw [nums_intItems] at hn
  subst hn
  rw [e] at hl
  refine call_max_walkD (iter_intList hl fun s₂ es st hfp hlI => ?_)
  subst es
  have back : ∀ {s' : Shared} {G : Array GenState → Array GenState → Prop}, Moved [s.heap.objs.size] G { s with heap := s.heap.push { cls := .type "list_iterator", data := .fields #[.ref l, .int 0 0] } } s' → ∀ b o, s.heap.get? b = some o → s'.heap.get? b = some o := fun hm => old_kept hm.heap
  refine ⟨_, _, _, _, _, _, _, s.heap, _, rfl, (Walks.list (A := A.in1) hh _ l hlI (intItems xs)).toS, st, hfp, fun b o eb hm => ?_, fun b o eb => Heap.get?_push_of_some _ eb, fun hz s' hm => ?_, fun hz => ⟨fun i j vi vj s1 Q E _ hi hj h => CmpOf.ints_gt (numAt xs) (fun _ _ => intItems_at) i j vi vj s1 Q E hi hj h, fun v s' hP hm => ?_⟩⟩
  · rcases List.mem_cons.mp hm with z | z
    · exact absurd (z ▸ Heap.lt_size eb) (Nat.lt_irrefl _)
    · cases z
  · obtain ⟨hp, g, dr, tk, os⟩ := s'
    have h1 := back hm
    have h2 : g = s.gens := hm.gens
    have h3 : dr = s.drawn := hm.drawn
    have h4 : os = s.os := hm.os
    subst h2 h3 h4
    exact h0 (by
      have : xs.size = 0 := by simpa [intItems] using hz
      rw [List.eq_nil_iff_length_eq_zero, List.length_map, Array.length_toList]
      exact this) hp tk h1
  · obtain ⟨hp, g, dr, tk, os⟩ := s'
    have h1 := back hm
    have h2 : g = s.gens := hm.gens
    have h3 : dr = s.drawn := hm.drawn
    have h4 : os = s.os := hm.os
    subst h2 h3 h4
    have hsz : 0 < xs.size := by simpa [intItems] using hz
    have hP' : (intItems xs)[argBest (fun i j => decide (numAt xs i > numAt xs j)) (xs.size - 1)]? = some v := by simpa [intItems] using hP
    obtain ⟨t, rfl⟩ := intItems_at hP'
    obtain ⟨k1, k2⟩ := argBest_gt (numAt xs) (xs.size - 1)
    refine h hp tk _ t h1 ?_ fun a ha => ?_
    · rw [numAt_eq]; exact PySem.getD_mem (by rw [List.length_map, Array.length_toList]; omega)
    · obtain ⟨j, hj, rfl⟩ := mem_getD ha
      rw [List.length_map, Array.length_toList] at hj
      rw [← numAt_eq]; exact k2 j (by omega)
theorem min_rawD (hh : A.handled = none) (hl : s.heap.IsList l its.toArray) (hi : IntsAre its ns)
    (h0 : ns = [] → ∀ h' tk, (∀ b o, s.heap.get? b = some o → h'.get? b = some o) → Q d { s with heap := h', toks := tk })
    (h : ∀ h' tk M t', (∀ b o, s.heap.get? b = some o → h'.get? b = some o) → M ∈ ns → (∀ a, a ∈ ns → M ≤ a) → Q (.int M t') { s with heap := h', toks := tk }) : wpAny (model prog w) A (call (.builtin "min") [.ref l] [(Str.ofString "default", d)]) Q E s := by
  obtain ⟨xs, e⟩ := hi.allInts.items
  have hn : numsOf (intItems xs).toList = ns := by rw [← e]; exact hi.numsOf
  rw [nums_intItems] at hn
  subst hn
  rw [e] at hl
  refine call_min_walkD (iter_intList hl fun s₂ es st hfp hlI => ?_)
  subst es
  have back : ∀ {s' : Shared} {G : Array GenState → Array GenState → Prop}, Moved [s.heap.objs.size] G { s with heap := s.heap.push { cls := .type "list_iterator", data := .fields #[.ref l, .int 0 0] } } s' → ∀ b o, s.heap.get? b = some o → s'.heap.get? b = some o := fun hm => old_kept hm.heap
  refine ⟨_, _, _, _, _, _, _, s.heap, _, rfl, (Walks.list (A := A.in1) hh _ l hlI (intItems xs)).toS, st, hfp, fun b o eb hm => ?_, fun b o eb => Heap.get?_push_of_some _ eb, fun hz s' hm => ?_, fun hz => ⟨fun i j vi vj s1 Q E _ hi hj h => CmpOf.ints_lt (numAt xs) (fun _ _ => intItems_at) i j vi vj s1 Q E hi hj h, fun v s' hP hm => ?_⟩⟩
  · rcases List.mem_cons.mp hm with z | z
    · exact absurd (z ▸ Heap.lt_size eb) (Nat.lt_irrefl _)
    · cases z
  · obtain ⟨hp, g, dr, tk, os⟩ := s'
    have h1 := back hm
    have h2 : g = s.gens := hm.gens
    have h3 : dr = s.drawn := hm.drawn
    have h4 : os = s.os := hm.os
    subst h2 h3 h4
    exact h0 (by
      have : xs.size = 0 := by simpa [intItems] using hz
      rw [List.eq_nil_iff_length_eq_zero, List.length_map, Array.length_toList]
      exact this) hp tk h1
  · obtain ⟨hp, g, dr, tk, os⟩ := s'
    have h1 := back hm
    have h2 : g = s.gens := hm.gens
    have h3 : dr = s.drawn := hm.drawn
    have h4 : os = s.os := hm.os
    subst h2 h3 h4
    have hsz : 0 < xs.size := by simpa [intItems] using hz
    have hP' : (intItems xs)[argBest (fun i j => decide (numAt xs i < numAt xs j)) (xs.size - 1)]? = some v := by simpa [intItems] using hP
    obtain ⟨t, rfl⟩ := intItems_at hP'
    obtain ⟨k1, k2⟩ := argBest_lt (numAt xs) (xs.size - 1)
    refine h hp tk _ t h1 ?_ fun a ha => ?_
    · rw [numAt_eq]; exact PySem.getD_mem (by rw [List.length_map, Array.length_toList]; omega)
    · obtain ⟨j, hj, rfl⟩ := mem_getD ha
      rw [List.length_map, Array.length_toList] at hj
      rw [← numAt_eq]; exact k2 j (by omega)
end
/-- what max(xs, default=d), min(xs, default=d) give -/
def rMaxDf (K : PySem.W.Frag) : List V → List V → Hp → VK → Prop := fun vs zs H Q => ∃ (a : Addr) (ns : List Int) (d : V), vs = [V.ref a] ∧ zs = [d] ∧ SqL K H a (ns.map V.int) ∧ (ns = [] → Q d H) ∧ ∀ m, m ∈ ns → (∀ y, y ∈ ns → y ≤ m) → Q (.int m) H
def rMinDf (K : PySem.W.Frag) : List V → List V → Hp → VK → Prop := fun vs zs H Q => ∃ (a : Addr) (ns : List Int) (d : V), vs = [V.ref a] ∧ zs = [d] ∧ SqL K H a (ns.map V.int) ∧ (ns = [] → Q d H) ∧ ∀ m, m ∈ ns → (∀ y, y ∈ ns → m ≤ y) → Q (.int m) H
theorem vals_one {d : V} {us : List Value} (r : Vals [d] us) : ∃ u, us = [u] ∧ RelV d u := by
  cases r with
  | cons r t =>
    cases t
    exact ⟨_, rfl, r⟩
theorem crMaxD (K : PySem.W.Frag) (hc : X.calm = true := by rfl) (h : X.K = K := by rfl) : CallRK X (.builtin "max") ["default"] (rMaxDf K) := by
  subst h
  intro pins s σ H vs zs us ws Q I r r2 h
  obtain ⟨a, ns, d, rfl, rfl, hs, q0, q⟩ := h
  obtain ⟨its, rv, hl, _⟩ := I.list hs
  rw [Vals.ref1 r]
  obtain ⟨u, rfl, rd⟩ := vals_one r2
  exact max_rawD (I.ok.hd hc) hl.isList rv.ints (fun hz h' tk hk => ⟨d, H, I.kept hk, rd, q0 hz⟩) fun h' tk m t' hk h1 h2 => ⟨.int _, H, I.kept hk, ⟨_, rfl⟩, q m h1 h2⟩
theorem crMinD (K : PySem.W.Frag) (hc : X.calm = true := by rfl) (h : X.K = K := by rfl) : CallRK X (.builtin "min") ["default"] (rMinDf K) := by
  subst h
  intro pins s σ H vs zs us ws Q I r r2 h
  obtain ⟨a, ns, d, rfl, rfl, hs, q0, q⟩ := h
  obtain ⟨its, rv, hl, _⟩ := I.list hs
  rw [Vals.ref1 r]
  obtain ⟨u, rfl, rd⟩ := vals_one r2
  exact min_rawD (I.ok.hd hc) hl.isList rv.ints (fun hz h' tk hk => ⟨d, H, I.kept hk, rd, q0 hz⟩) fun h' tk m t' hk h1 h2 => ⟨.int _, H, I.kept hk, ⟨_, rfl⟩, q m h1 h2⟩
/-! ### d.setdefault(k, v), k a tuple -/
def tSetT (td ty tx : TE) : TE := fun σ H Q => td σ H fun x H1 => ∃ a, x = .ref a ∧ IsD H1 a ∧ ty σ H1 fun y H2 => tx σ H2 fun z H3 => ∃ (kvs : List (List L2.Key × V)) (k : List L2.Key) (b : Addr), H3 a = some (.dT kvs) ∧ y = .ref b ∧ H3 b = some (.tup (k.map kV)) ∧ kvs.length < sizeLine ∧
  (∀ v, valV kvs k = some v → Q v H3) ∧ (valV kvs k = none → Q z (upd H3 a (.dT (putK kvs k z))))
section
variable {pins : List (Addr × Obj)} {σ : L2.St} {H : Hp} {s : Shared} {a b : Addr} {r : Value} {d : V} {k : List L2.Key} {A : Around} {E : Value → Shared → Prop}
theorem d_setT {kvs : List (List L2.Key × V)} {Q : Value → Shared → Prop} (hu : A.units + 1 < cLine) (I : Inv X pins σ H s) (e : H a = some (.dT kvs)) (eb : H b = some (.tup (k.map kV))) (rd : RelV d r) (hl : kvs.length < sizeLine)
    (h1 : ∀ v, valV kvs k = some v → ∀ (w' : Value) (s' : Shared), Inv X pins σ H s' → RelV v w' → Q w' s') (h2 : valV kvs k = none → ∀ (w' : Value) (s' : Shared), Inv X pins σ (upd H a (.dT (putK kvs k d))) s' → RelV d w' → Q w' s') :
    wpAny (model X.prog X.w) A (call (.builtin "dict.setdefault") [.ref a, .ref b, r]) Q E s := by
  obtain ⟨z, hd, xs, rel, dd⟩ := dt_of I.hok e
  have hz : xs.length ≤ sizeLine := by rw [← Paired.length rel]; exact z
  have hl2 : (putK kvs k d).length ≤ sizeLine := by
    have := length_putK kvs k d
    omega
  refine call_meetsIn PySem.F.slot_dict_setdefault dd.typeIs PySem.F.entry_dict_setdefault (PySem.F.args_dict_setdefault_3 _ _ _) (meetsH_dict_setdefault (tupleKind (mixKind X.prog X.w)) a b hd r) ⟨tupleKind_room_in1 hu, k, xs, key_of I.hok eb, dd, hz, fun p hp => ?_, fun hn h' dd' hs => ?_⟩
  · have q := rel.val k
    rw [hp] at q
    cases q0 : valV kvs k with
    | none =>
      rw [q0] at q
      exact (show False from q).elim
    | some v0 =>
      rw [q0] at q
      exact h1 v0 q0 _ _ (I.tok _) q
  · have q := rel.val k
    rw [hn] at q
    cases q0 : valV kvs k with
    | some v0 =>
      rw [q0] at q
      exact (show False from q).elim
    | none =>
      obtain ⟨qo, es, ep, hq, g2, g3, g4, _, g5⟩ := dd'
      refine h2 q0 _ _ (d_write I (by rw [e]; exact True.intro) hs ⟨qo, hq⟩ ⟨hl2, hd, _, (rel.put k eb rd).keeps fun c ys ec => ?_, qo, es, ep, hq, g2, g3, g4, g5⟩) rd
      rw [upd_ne (ne_of ec e (fun z => nomatch z))]
      exact ec
end
theorem pe_setT {o e f : Expr} {td ty tx : TE} {apos cpos : Pos} (hu : X.A.units + 65 < cLine) (ho : PE X o td) (he : PE X e ty) (hf : PE X f tx)
    (m1 : attributeBase o "setdefault" X.env (eval o X.env) = eval o X.env := by rfl)
    (m2 : ((backTo cpos (starEach [e, f] X.env)).all (fun x => !x.1) && (backToKw cpos (keywordEach [] X.env)).all (fun x => x.1.isSome)
      && decide (([e, f] : List Expr).length + ([] : List Keyword).length + (if ([] : List Keyword).isEmpty then 0 else 1) < 30)) = true := by rfl)
    (m3 : (apos.endLine == cpos.line) = true := by rfl) (m4 : backTo cpos (starEach [e, f] X.env) = [(false, eval e X.env), (false, eval f X.env)] := by rfl) :
    PE X (.Call (.Attribute o "setdefault" apos) [e, f] [] cpos) (tSetT td ty tx) := by
  refine ⟨fun pins s σ H Q I h => ?_⟩
  refine wpAny_Call_method m1 m2 m3 PySem.F.plainAttrs_dict PySem.F.slot_dict_setdefault PySem.F.type_dict_setdefault (thn (ho.run pins s σ H _ I h) fun u s1 ⟨x, H1, I1, rx, a, ex, d, q1⟩ => ?_)
  subst ex
  obtain rfl : u = Value.ref a := rx
  obtain ⟨t1, t2, _⟩ := isD_at I1 d
  refine ⟨t1, t2, ?_⟩
  rw [m4]
  refine Calls.callWith_builtin rfl (Calls.evalArgs_plain (Calls.spliced_cons (thn (he.run pins s1 σ H1 _ I1 q1) fun iv s2 ⟨y, H2, I2, ry, q2⟩ =>
    Calls.spliced_cons (thn (hf.run pins s2 σ H2 _ I2 q2) fun fv s3 ⟨z, H3, I3, rz, kvs, k, b, ea, ey, eb, hl, q3, q4⟩ => Calls.spliced_nil ?_))))
  subst ey
  obtain rfl : iv = Value.ref b := ry
  exact d_setT (by omega) I3 ea eb rz hl (fun v hv w' s4 I4 rw' => ⟨v, _, I4, rw', q3 v hv⟩) fun hn w' s4 I4 rw' => ⟨z, _, I4, rw', q4 hn⟩
theorem pt_inD {i o : Expr} {td ty : TE} {pos : Pos} (hu : X.A.units + 65 < cLine) (hi : PE X i ty) (ho : PE X o td) (h1 : behindInMarks .In o = false := by rfl) : PT X (.Compare i [.In] [o] pos) (tB (tDIn ty td)) := pt_cmp (pc_din (by omega) hi ho) h1
theorem pe_ixD {i o : Expr} {td ty : TE} {pos : Pos} (hu : X.A.units + 65 < cLine) (ho : PE X o td) (hi : PE X i ty) (hs : ∀ ov iv, subscripted i false ov iv = operate [ov, iv] (getItem ov iv) := by exact fun _ _ => rfl) : PE X (.Subscript o i pos) (tDGet td ty) := pe_dget (by omega) ho hi hs
end
section
variable {K : PySem.W.Frag}
theorem ev_sumN {σ : L2.St} {H : Hp} {ta : TE} {ns : List Int} (h : EvL ta σ H (ns.map V.int)) : Ev (tCB (rSum K) (tCons ta tNil)) σ H (.int ns.sum) := fun H1 e1 Q q => h H1 e1 _ fun p H2 _ e2 h2 => ⟨p, ns, rfl, sq_of h2, q H2 e2⟩
theorem ev_sum {σ : L2.St} {H : Hp} {ta : TE} {a : Addr} {ns : List Int} (h : Ev ta σ H (.ref a)) (hs : SqL K H a (ns.map V.int)) : Ev (tCB (rSum K) (tCons ta tNil)) σ H (.int ns.sum) := fun H1 e1 Q q => h H1 e1 _ fun H2 e2 => ⟨a, ns, rfl, ex_l (e1.trans e2) hs, q H2 e2⟩
/-- max(xs, default=d) of a list that stands -/
theorem ev_maxD {σ : L2.St} {H : Hp} {ta td : TE} {a : Addr} {ns : List Int} {d m : Int} (h : Ev ta σ H (.ref a)) (hs : SqL K H a (ns.map V.int)) (hd : Ev td σ H (.int d)) (h0 : ns = [] → d = m) (h1 : ∀ x, x ∈ ns → (∀ y, y ∈ ns → y ≤ x) → x = m) : Ev (tCKw (rMaxDf K) (tCons ta tNil) (tCons td tNil)) σ H (.int m) := fun H1 e1 Q q =>
  h H1 e1 _ fun H2 e2 => hd H2 (e1.trans e2) _ fun H3 e3 => ⟨a, ns, .int d, rfl, rfl, ex_l ((e1.trans e2).trans e3) hs, fun z => by rw [h0 z]; exact q H3 (e2.trans e3), fun x hx hy => by rw [h1 x hx hy]; exact q H3 (e2.trans e3)⟩
/-- min(xs, default=d) of a new list -/
theorem ev_minD {σ : L2.St} {H : Hp} {ta td : TE} {ns : List Int} {d m : Int} (h : EvL ta σ H (ns.map V.int)) (hd : Ev td σ H (.int d)) (h0 : ns = [] → d = m) (h1 : ∀ x, x ∈ ns → (∀ y, y ∈ ns → x ≤ y) → x = m) : Ev (tCKw (rMinDf K) (tCons ta tNil) (tCons td tNil)) σ H (.int m) := fun H1 e1 Q q =>
  h H1 e1 _ fun a H2 _ e2 h2 => hd H2 (e1.trans e2) _ fun H3 e3 => ⟨a, ns, .int d, rfl, rfl, sq_of (e3 _ _ h2), fun z => by rw [h0 z]; exact q H3 (e2.trans e3), fun x hx hy => by rw [h1 x hx hy]; exact q H3 (e2.trans e3)⟩
/-- a comprehension over enumerate(xs) -/
theorem el_lcE {σ : L2.St} {H : Hp} {a : Addr} {xs : List V} {ta : TA} {tt : TT} {te : TE} {i j : Nat} {vs : List Nat} (f : Nat → Bool) (v : Nat → V) (h : EvA ta σ H [.ref a]) (hx : SqL K H a xs) (hz : xs.length ≤ 40000)
    (hw : ∀ x y, wipe (((wipe σ vs).set i (some x)).set j (some y)) vs = wipe σ vs) (ht : ∀ (k : Nat) x H1, Ex H H1 → xs[k]? = some x → EvT tt (((wipe σ vs).set i (some (.int (k : Nat)))).set j (some x)) H1 (f k)) (he : ∀ (k : Nat) x H1, Ex H H1 → xs[k]? = some x → f k = true → Ev te (((wipe σ vs).set i (some (.int (k : Nat)))).set j (some x)) H1 (v k)) :
    EvL (tLc (iEnum K ta) (gTup K 2 (gCons (gName i) (gCons (gName j) gNil))) tt te vs) σ H (given xs.length f v) := fun H0 e Q q => h H0 e _ fun H1 e1 => by
  have ee : Ex H H1 := e.trans e1
  refine ⟨a, xs, rfl, ex_l ee hx, fun Dl hD => ?_⟩
  refine lc_it (walk_enum (K := K) (a := a) (xs := xs)) (Cw H1 f v Dl) ⟨hD, Ex.new hD, upd_same⟩ (fun k H' _ p => ex_l (ee.trans p.2.1) hx) (fun k x H' H'' hk p y => ?_) fun H' p => q Dl H' (fresh_back e1 p.1) (e1.trans p.2.1) p.2.2
  obtain ⟨T, x1, y1, rfl, hT, rfl, h1, h2⟩ := y
  obtain rfl := Option.some.inj h1
  refine ⟨T, _, rfl, st_of upd_same, rfl, _, _, rfl, _, _, rfl, rfl, hw _ y1, ?_⟩
  have e3 : Ex H' (upd H' T (.tup [.int (k : Nat), y1])) := Ex.new hT
  exact cw_turn (f := f) ⟨p.1, p.2.1.trans e3, e3 _ _ p.2.2⟩ (by omega) (ht k y1 H1 ee h2) fun hf => he k y1 H1 ee h2 hf
theorem rv_isN {x : V} {H : Hp} : RV (fun x y H Q => y = .non ∧ Q (.bl (decide (x = .non))) H) x .non H (.bl (decide (x = .non))) := fun H1 _ Q q => ⟨rfl, q H1 (Ex.refl H1)⟩
theorem rv_notN {x : V} {H : Hp} : RV (fun x y H Q => y = .non ∧ Q (.bl (!decide (x = .non))) H) x .non H (.bl (!decide (x = .non))) := fun H1 _ Q q => ⟨rfl, q H1 (Ex.refl H1)⟩
end
end CK
/-! those who act -/
namespace CK
open Vbpxaf
/-- a company and one more -/
def orB (c m : Nat) : Nat := if bit c m = true then c else c + 2 ^ m
theorem orB_or : ∀ c : Fin 64, ∀ m : Fin 6, PySem.Builtin.bitOr ((c.val : Nat) : Int) ((2 ^ m.val : Nat) : Int) = ((orB c.val m.val : Nat) : Int) := by decide +kernel
theorem orB_bit : ∀ c : Fin 64, ∀ m : Fin 6, ∀ n : Fin 6, bit (orB c.val m.val) n.val = (bit c.val n.val || n.val == m.val) := by decide +kernel
theorem sub_le : ∀ c : Fin 64, ∀ d : Fin 64, (∀ n : Fin 6, bit c.val n.val = true → bit d.val n.val = true) → c.val ≤ d.val := by decide +kernel
/-- c's officers are all among S -/
def Sub (k c : Nat) (S : Nat → Bool) : Prop := ∀ n, n < k → bit c n = true → S n = true
theorem bit_high {k c n : Nat} (hc : c < 2 ^ k) (hn : k ≤ n) : bit c n = false := bit_out hc hn
theorem le_of_sub {k c d : Nat} (hk : k ≤ 6) (hc : c < 2 ^ k) (hd : d < 2 ^ k) (h : Sub k c (bit d)) : c ≤ d := by
  have h64 := pow64 hk
  refine sub_le ⟨c, by omega⟩ ⟨d, by omega⟩ fun n hn => ?_
  rcases Nat.lt_or_ge n.val k with h1 | h1
  · exact h n.val h1 hn
  · rw [show bit c n.val = false from bit_high hc h1] at hn
    cases hn
theorem eq_of_sub {k c d : Nat} (hk : k ≤ 6) (hc : c < 2 ^ k) (hd : d < 2 ^ k) (h : Sub k c (bit d)) (h' : Sub k d (bit c)) : c = d :=
  Nat.le_antisymm (le_of_sub hk hc hd h) (le_of_sub hk hd hc h')
theorem orB_lt {k c m : Nat} (hk : k ≤ 6) (hm : m < k) (hc : c < 2 ^ k) : orB c m < 2 ^ k := by
  unfold orB
  split
  · exact hc
  · rename_i h
    exact bit_add' hk hm hc (by simpa using h)
theorem orB_at {k c m n : Nat} (hk : k ≤ 6) (hm : m < k) (hn : n < k) (hc : c < 2 ^ k) : bit (orB c m) n = (bit c n || n == m) := by
  have := pow64 hk
  exact orB_bit ⟨c, by omega⟩ ⟨m, by omega⟩ ⟨n, by omega⟩
abbrev Pairs := List (Nat × Nat)
def In (k : Nat) (s : Pairs) : Prop := ∀ x ∈ s, x.1 < k ∧ x.2 < k
def Closed (s : Pairs) (S : Nat → Bool) : Prop := ∀ x ∈ s, S x.1 = true → S x.2 = true
/-- one walk over the pairs -/
def stepP (c : Nat) (s : Pairs) : Nat := s.foldl (fun c x => if bit c x.1 = true then orB c x.2 else c) c
theorem stepP_lt {k : Nat} (hk : k ≤ 6) : ∀ {s : Pairs} {c : Nat}, In k s → c < 2 ^ k → stepP c s < 2 ^ k
  | [], c, _, hc => hc
  | x :: s, c, hs, hc => by
    show stepP (if bit c x.1 = true then orB c x.2 else c) s < 2 ^ k
    refine stepP_lt hk (fun y hy => hs y (List.mem_cons_of_mem _ hy)) ?_
    split
    · exact orB_lt hk (hs x List.mem_cons_self).2 hc
    · exact hc
theorem stepP_mono {k : Nat} (hk : k ≤ 6) : ∀ {s : Pairs} {c : Nat}, In k s → c < 2 ^ k → Sub k c (bit (stepP c s))
  | [], c, _, hc => fun n _ h => h
  | x :: s, c, hs, hc => by
    have hx := hs x List.mem_cons_self
    have hc' : (if bit c x.1 = true then orB c x.2 else c) < 2 ^ k := by
      split
      · exact orB_lt hk hx.2 hc
      · exact hc
    have ih := stepP_mono hk (s := s) (c := if bit c x.1 = true then orB c x.2 else c) (fun y hy => hs y (List.mem_cons_of_mem _ hy)) hc'
    intro n hn h
    refine ih n hn ?_
    split
    · rw [orB_at hk hx.2 hn hc, h]
      rfl
    · exact h
theorem stepP_in {k : Nat} (hk : k ≤ 6) {S : Nat → Bool} : ∀ {s : Pairs} {c : Nat}, In k s → c < 2 ^ k → Closed s S → Sub k c S → Sub k (stepP c s) S
  | [], c, _, _, _, h => h
  | x :: s, c, hs, hc, hS, h => by
    have hx := hs x List.mem_cons_self
    show Sub k (stepP (if bit c x.1 = true then orB c x.2 else c) s) S
    refine stepP_in hk (s := s) (fun y hy => hs y (List.mem_cons_of_mem _ hy)) ?_ (fun y hy => hS y (List.mem_cons_of_mem _ hy)) ?_
    · split
      · exact orB_lt hk hx.2 hc
      · exact hc
    · split
      · rename_i hb
        intro n hn h1
        rw [orB_at hk hx.2 hn hc, Bool.or_eq_true] at h1
        rcases h1 with h1 | h1
        · exact h n hn h1
        · have e : n = x.2 := by simpa using h1
          rw [e]
          exact hS x List.mem_cons_self (h x.1 hx.1 hb)
      · exact h
theorem stepP_fix {k : Nat} (hk : k ≤ 6) : ∀ {s : Pairs} {c : Nat}, In k s → c < 2 ^ k → stepP c s = c → Closed s (bit c)
  | [], c, _, _, _ => fun x hx => by cases hx
  | x :: s, c, hs, hc, h => by
    have hx := hs x List.mem_cons_self
    have hs' : In k s := fun y hy => hs y (List.mem_cons_of_mem _ hy)
    have hc' : (if bit c x.1 = true then orB c x.2 else c) < 2 ^ k := by
      split
      · exact orB_lt hk hx.2 hc
      · exact hc
    have h1 : stepP (if bit c x.1 = true then orB c x.2 else c) s = c := h
    have e : (if bit c x.1 = true then orB c x.2 else c) = c := by
      refine eq_of_sub hk hc' hc (fun n hn hb => ?_) fun n hn hb => ?_
      · have := stepP_mono hk hs' hc' n hn hb
        rw [h1] at this
        exact this
      · split
        · rw [orB_at hk hx.2 hn hc, hb]
          rfl
        · exact hb
    rw [e] at h1
    have ih := stepP_fix hk hs' hc h1
    intro y hy hb
    rcases List.mem_cons.mp hy with rfl | hy
    · rw [if_pos hb] at e
      have := orB_at hk hx.2 hx.2 hc
      rw [e] at this
      rw [this]
      simp
    · exact ih y hy hb
/-! ### the specification's rounds -/
def numOf (f : Nat → Bool) (l : List Nat) : Nat := l.foldr (fun n r => (if f n = true then 1 else 0) + 2 * r) 0
theorem bit_zero (b r : Nat) (hb : b < 2) : bit (b + 2 * r) 0 = (b == 1) := by
  unfold Vbpxaf.bit
  have : (b + 2 * r) / 2 ^ 0 % 2 = b := by simp; omega
  rw [this]
theorem bit_succ (b r n : Nat) (hb : b < 2) : bit (b + 2 * r) (n + 1) = bit r n := by
  unfold Vbpxaf.bit
  have : (b + 2 * r) / 2 ^ (n + 1) = r / 2 ^ n := by
    rw [Nat.pow_succ, Nat.mul_comm (2 ^ n) 2, ← Nat.div_div_eq_div_mul]
    congr 1
    omega
  rw [this]
theorem numOf_bit (f : Nat → Bool) : ∀ (k a n : Nat), n < k → bit (numOf f (List.range' a k)) n = f (a + n)
  | 0, a, n, h => by omega
  | k + 1, a, n, h => by
    have e : numOf f (List.range' a (k + 1)) = (if f a = true then 1 else 0) + 2 * numOf f (List.range' (a + 1) k) := by
      rw [List.range'_succ]
      rfl
    have hb : (if f a = true then 1 else 0) < 2 := by split <;> omega
    rw [e]
    cases n with
    | zero =>
      rw [bit_zero _ _ hb]
      cases h : f a <;> simp [h]
    | succ n =>
      rw [bit_succ _ _ _ hb, numOf_bit f k (a + 1) n (by omega)]
      congr 1
      omega
theorem numOf_lt (f : Nat → Bool) : ∀ (l : List Nat), numOf f l < 2 ^ l.length
  | [] => by simp [numOf]
  | n :: l => by
    have h := numOf_lt f l
    show (if f n = true then 1 else 0) + 2 * numOf f l < 2 ^ (l.length + 1)
    rw [Nat.pow_succ]
    split <;> omega
def nextB (s : Pairs) (c n : Nat) : Bool := bit c n || s.any fun x => x.2 == n && bit c x.1
theorem round_eq (k : Nat) (s : Pairs) (c : Nat) : reachRound k s c = numOf (nextB s c) (List.range k) := by
  unfold reachRound numOf
  congr 1
  funext n r
  congr 1
  unfold nextB
  cases h : bit c n <;> cases h2 : (s.any fun x => x.2 == n && bit c x.1) <;> simp [h, h2]
theorem round_bit {k : Nat} {s : Pairs} {c n : Nat} (hn : n < k) : bit (reachRound k s c) n = nextB s c n := by
  rw [round_eq, List.range_eq_range', numOf_bit _ k 0 n hn, Nat.zero_add]
theorem round_lt (k : Nat) (s : Pairs) (c : Nat) : reachRound k s c < 2 ^ k := by
  have h := numOf_lt (nextB s c) (List.range k)
  rw [List.length_range] at h
  rw [round_eq]
  exact h
theorem round_mono {k : Nat} {s : Pairs} {c : Nat} : Sub k c (bit (reachRound k s c)) := fun n hn h => by
  rw [round_bit hn]
  unfold nextB
  rw [h]
  rfl
theorem round_in {k : Nat} {s : Pairs} {c : Nat} {S : Nat → Bool} (hs : In k s) (hS : Closed s S) (h : Sub k c S) : Sub k (reachRound k s c) S := fun n hn hb => by
  rw [round_bit hn] at hb
  unfold nextB at hb
  rw [Bool.or_eq_true] at hb
  rcases hb with hb | hb
  · exact h n hn hb
  · obtain ⟨x, hx, hx2⟩ := List.any_eq_true.mp hb
    rw [Bool.and_eq_true] at hx2
    have e : x.2 = n := by simpa using hx2.1
    rw [← e]
    exact hS x hx (h x.1 (hs x hx).1 hx2.2)
theorem round_fix {k : Nat} {s : Pairs} {c : Nat} (hs : In k s) (h : reachRound k s c = c) : Closed s (bit c) := fun x hx hb => by
  have h1 := round_bit (k := k) (s := s) (c := c) (hs x hx).2
  rw [h] at h1
  rw [h1]
  unfold nextB
  rw [Bool.or_eq_true]
  exact .inr (List.any_eq_true.mpr ⟨x, hx, by simp [hb]⟩)
theorem reach_lt {k : Nat} {s : Pairs} : ∀ {i c : Nat}, c < 2 ^ k → reach k s i c < 2 ^ k
  | 0, c, h => h
  | i + 1, c, h => reach_lt (i := i) (round_lt k s c)
theorem reach_mono {k : Nat} {s : Pairs} : ∀ {i c : Nat}, Sub k c (bit (reach k s i c))
  | 0, c => fun n _ h => h
  | i + 1, c => fun n hn h => reach_mono (i := i) n hn (round_mono n hn h)
theorem reach_in {k : Nat} {s : Pairs} {S : Nat → Bool} (hs : In k s) (hS : Closed s S) : ∀ {i c : Nat}, Sub k c S → Sub k (reach k s i c) S
  | 0, c, h => h
  | i + 1, c, h => reach_in hs hS (i := i) (round_in hs hS h)
theorem reach_stop {k : Nat} {s : Pairs} {c : Nat} (h : reachRound k s c = c) : ∀ i, reach k s i c = c
  | 0 => rfl
  | i + 1 => by
    show reach k s i (reachRound k s c) = c
    rw [h]
    exact reach_stop h i
theorem filter_lt {p q : Nat → Bool} : ∀ {l : List Nat} {x : Nat}, (∀ y ∈ l, p y = true → q y = true) → x ∈ l → p x = false → q x = true → (l.filter p).length < (l.filter q).length
  | [], x, _, hx, _, _ => by cases hx
  | a :: l, x, h, hx, h1, h2 => by
    have hle : ∀ m : List Nat, (∀ y ∈ m, p y = true → q y = true) → (m.filter p).length ≤ (m.filter q).length := by
      intro m
      induction m with
      | nil => simp
      | cons b m ih =>
        intro hm
        have := ih fun y hy => hm y (List.mem_cons_of_mem _ hy)
        rw [List.filter_cons, List.filter_cons]
        cases hp : p b with
        | false => cases hq : q b <;> simp <;> omega
        | true =>
          rw [hm b List.mem_cons_self hp]
          simp
          exact this
    rw [List.filter_cons, List.filter_cons]
    rcases List.mem_cons.mp hx with rfl | hx
    · rw [h1, h2]
      have := hle l fun y hy => h y (List.mem_cons_of_mem _ hy)
      simp
      omega
    · have ih := filter_lt (l := l) (x := x) (fun y hy => h y (List.mem_cons_of_mem _ hy)) hx h1 h2
      cases hp : p a with
      | false => cases hq : q a <;> simp <;> omega
      | true =>
        rw [h a List.mem_cons_self hp]
        simp
        exact ih
theorem reach_closed {k : Nat} (hk : k ≤ 6) {s : Pairs} (hs : In k s) : ∀ (i c : Nat), c < 2 ^ k → k ≤ sized k c + i ∨ c = 0 → Closed s (bit (reach k s i c)) := by
  intro i
  induction i with
  | zero =>
    intro c hc h
    have hfull : ∀ n, n < k → c ≠ 0 → bit c n = true := by
      intro n hn hne
      rcases h with h | h
      · cases hb : bit c n with
        | true => rfl
        | false =>
          exfalso
          have := filter_lt (p := bit c) (q := fun _ => true) (l := List.range k) (x := n) (fun _ _ _ => rfl) (List.mem_range.mpr hn) hb rfl
          rw [List.filter_eq_self.mpr (fun _ _ => rfl), List.length_range] at this
          have e : sized k c = ((List.range k).filter (bit c)).length := rfl
          omega
      · exact absurd h hne
    intro x hx hb
    show bit c x.2 = true
    refine hfull x.2 (hs x hx).2 fun z => ?_
    have hb' : bit c x.1 = true := hb
    rw [z] at hb'
    unfold Vbpxaf.bit at hb'
    simp at hb'
  | succ i ih =>
    intro c hc h
    by_cases e : reachRound k s c = c
    · rw [reach_stop e]
      exact round_fix hs e
    · refine ih (reachRound k s c) (round_lt k s c) ?_
      have hm : Sub k c (bit (reachRound k s c)) := round_mono
      obtain ⟨n, hn, h1, h2⟩ : ∃ n, n < k ∧ bit c n = false ∧ bit (reachRound k s c) n = true := by
        by_cases hex : ∃ n, n < k ∧ bit c n = false ∧ bit (reachRound k s c) n = true
        · exact hex
        · exfalso
          apply e
          refine eq_of_sub hk (round_lt k s c) hc (fun n hn hb => ?_) hm
          cases hb2 : bit c n with
          | true => rfl
          | false => exact absurd ⟨n, hn, hb2, hb⟩ hex
      have hlt := filter_lt (p := bit c) (q := bit (reachRound k s c)) (l := List.range k) (x := n) (fun y hy hp => hm y (List.mem_range.mp hy) hp) (List.mem_range.mpr hn) h1 h2
      have e1 : sized k c = ((List.range k).filter (bit c)).length := rfl
      have e2 : sized k (reachRound k s c) = ((List.range k).filter (bit (reachRound k s c))).length := rfl
      rcases h with h | h
      · left
        omega
      · subst h
        exfalso
        apply e
        refine eq_of_sub hk (round_lt k s 0) hc (fun n hn hb => ?_) hm
        rw [round_bit hn] at hb
        unfold nextB at hb
        have z : ∀ m, bit 0 m = false := fun m => by unfold Vbpxaf.bit; simp
        simp [z] at hb
/-- whatever is closed, holds those who are there and no more than it must, is those who act -/
theorem act_unique {k : Nat} (hk : k ≤ 6) {s : Pairs} (hs : In k s) {h c : Nat} (hh : h < 2 ^ k) (hc : c < 2 ^ k) (h1 : Sub k h (bit c)) (h2 : Closed s (bit c)) (h3 : ∀ S, Closed s S → Sub k h S → Sub k c S) : c = reach k s k h := by
  refine eq_of_sub hk hc (reach_lt hh) (h3 _ ?_ reach_mono) (reach_in hs h2 h1)
  exact reach_closed hk hs k h hh (by left; omega)
end CK
/-! events.py -/
namespace CK
open PySem PySem.Spec PyProof.Rows L2 Evl
open Vbpxaf (bit count opens File nameOf Now mayBe done acting may)
section
variable {P : Program} {w : World} {K : PySem.W.Frag} {mg : Str → Option Value} {base : Heap}
def PairAt (H : Hp) (p : Addr) (x : Nat × Nat) : Prop := H p = some (.tup [.int (x.1 : Int), .int (x.2 : Int)])
def PairsAt (H : Hp) (l : Addr) (s : Pairs) : Prop := ∃ ps : List Addr, H l = some (.lst (ps.map V.ref)) ∧ Paired (PairAt H) ps s
theorem PairsAt.ex {H H' : Hp} {l : Addr} {s : Pairs} (h : PairsAt H l s) (e : Ex H H') : PairsAt H' l s := by
  obtain ⟨ps, h1, h2⟩ := h
  exact ⟨ps, e _ _ h1, L2.Paired.mapP h2 fun _ _ z => e _ _ z⟩
theorem pairs_get {H : Hp} {ps : List Addr} {s : Pairs} {i : Nat} {x : V} (h : Paired (PairAt H) ps s) (hi : (ps.map V.ref)[i]? = some x) : ∃ p y, x = .ref p ∧ s[i]? = some y ∧ PairAt H p y := by
  rw [List.getElem?_map] at hi
  obtain ⟨p, hp, rfl⟩ := Option.map_eq_some_iff.mp hi
  have hl := paired_len h
  have hlt := (List.getElem?_eq_some_iff.mp hp).1
  have hs : s[i]? = some s[i] := List.getElem?_eq_getElem (by omega)
  obtain ⟨q, hq, hq2⟩ := paired_at h hs
  rw [hp] at hq
  cases hq
  exact ⟨p, _, rfl, hs, hq2⟩
theorem ev_fst {σ : L2.St} {H : Hp} {p : Addr} {x : Nat × Nat} {ta : TE} (h : PairAt H p x) (h1 : Ev ta σ H (.ref p)) : Ev (tOp (rIxT K) ta (tC (.int 0))) σ H (.int (x.1 : Int)) := ev_op h1 ev_c (rv_ixT (st_of h) rfl)
theorem ev_snd {σ : L2.St} {H : Hp} {p : Addr} {x : Nat × Nat} {ta : TE} (h : PairAt H p x) (h1 : Ev ta σ H (.ref p)) : Ev (tOp (rIxT K) ta (tC (.int 1))) σ H (.int (x.2 : Int)) := ev_op h1 ev_c (rv_ixT (st_of h) rfl)
theorem stepP_take {s : Pairs} {c i : Nat} {x : Nat × Nat} (h : s[i]? = some x) : stepP c (s.take (i + 1)) = if bit (stepP c (s.take i)) x.1 = true then orB (stepP c (s.take i)) x.2 else stepP c (s.take i) := by
  unfold stepP
  rw [List.take_succ, h, List.foldl_append]
  rfl
def sp_with (K : PySem.W.Frag) : Sp := fun vs H Q _ => ∃ (l : Addr) (s : Pairs) (k c : Nat), vs = [.int (c : Int), .ref l] ∧ PairsAt H l s ∧ k ≤ 6 ∧ In k s ∧ c < 2 ^ k ∧ RetV (.int (stepP c s : Nat)) H Q
theorem ok_with_those_stood_for (S : Top K mg) : Has P w K mg base CX0 "with_those_stood_for" 2 P_with_those_stood_for (sp_with K) := by
  refine has_of (g_with_those_stood_for S) (fn_with_those_stood_for S) sc_with_those_stood_for bi_with_those_stood_for (fun vs H Q E h => ?_) (fun cdv A outer s H vs Q E hr h => ?_)
  · obtain ⟨l, s, k, c, rfl, _⟩ := h
    rfl
  · obtain ⟨l, s, k, c, rfl, ⟨ps, hl, hps⟩, hk, hs, hc, k1⟩ := h
    refine ⟨_, (pss_cons (ps_for PassesOwn.never rfl (piL K (pv 1)) (pg_name (i := 2) sc_with_those_stood_for.nd rfl (Or.inl rfl))
      (pss_one (ps_if (pt_val (pe_h (ok_has S) (hr.mono (by omega)) rfl (pa_cons (pv 0) (pa_cons (pe_ix (ixT K) (pv 2) pe_int (fun _ _ => rfl)) pa_nil))))
      (pss_one (ps_set (i := 0) sc_with_those_stood_for.nd rfl (Or.inl rfl) (pe_op op_or (pv 0) (pe_h (ok_alone S) (hr.mono (by omega)) rfl (pa_cons (pe_ix (ixT K) (pv 2) pe_int (fun _ _ => rfl)) pa_nil))))) pss_nil)))
      (pss_one (ps_ret (pv 0)))), ?_⟩
    have h64 := pow64 hk
    have hst : ∀ i, stepP c (s.take i) < 2 ^ k := fun i => stepP_lt hk (fun x hx => hs x (List.mem_of_mem_take hx)) hc
    refine q_forLn (ev_var rfl) (sq_of hl) (fun i σ' H' => ∃ v, σ' = [some (.int (stepP c (s.take i) : Nat)), some (.ref l), v] ∧ Ex H H') (fun H1 e1 => ⟨none, rfl, e1⟩) (fun i σ' H' _ h => sq_of (h.choose_spec.2 _ _ hl)) ?_ ?_
    · rintro i x σ' H' hi ⟨v, rfl, e1⟩
      obtain ⟨p, y, rfl, hy, hp⟩ := pairs_get hps hi
      have hp1 : PairAt H' p y := e1 _ _ hp
      have hyk := hs y (List.mem_of_getElem? hy)
      have hlt := hst i
      have e := stepP_take (c := c) hy
      refine s_when (b := bit (stepP c (s.take i)) y.1) (et_B (ev_has (ev_var rfl) (ev_fst hp1 (ev_var rfl)) (by omega) (by omega))) (fun hb H2 e2 => ?_) fun hb H2 e2 => ?_
      · have e' : stepP c (s.take (i + 1)) = orB (stepP c (s.take i)) y.2 := by rw [e, if_pos hb]
        refine s_asg (v := .int (stepP c (s.take (i + 1)) : Nat)) (ev_is (ev_op (ev_var rfl) (ev_alone (ev_snd (e2 _ _ hp1 : PairAt H2 p y) (ev_var rfl)) (by omega)) rv_I0) ?_) fun H3 e3 => ⟨_, rfl, e1.trans (e2.trans e3)⟩
        rw [e', orB_or ⟨stepP c (s.take i), by omega⟩ ⟨y.2, by omega⟩]
      · have e' : stepP c (s.take (i + 1)) = stepP c (s.take i) := by rw [e, hb]; rfl
        refine ⟨some (.ref p), ?_, e1.trans e2⟩
        rw [e']
        rfl
    · rintro σ' H' ⟨v, rfl, e1⟩
      rw [List.length_map, paired_len hps, List.take_length]
      exact s_ret (ev_var rfl) fun H2 e2 => k1 H2 (e1.trans e2)
/-! ### the hall -/
def nmHall : List Str := ["there", "dead", "pairs"]
theorem hallF (x y z : V) : putF "pairs" z (putF "dead" y (putF "there" x [])) = nmHall.zip [x, y, z] := by
  have e1 : putF "dead" y (putF "there" x []) = ([("there", x), ("dead", y)] : List (Str × V)) := (put_past (by decide +kernel)).trans rfl
  rw [e1]
  exact (put_past (by decide +kernel)).trans (congrArg _ ((put_past (by decide +kernel)).trans rfl))
theorem hall_there (x y z : V) : (nmHall.zip [x, y, z]).lookup ("there" : Str) = some x := lk_here
theorem hall_dead (x y z : V) : (nmHall.zip [x, y, z]).lookup ("dead" : Str) = some y := (lk_past (by decide +kernel)).trans lk_here
theorem hall_pairs (x y z : V) : (nmHall.zip [x, y, z]).lookup ("pairs" : Str) = some z := (lk_past (by decide +kernel)).trans ((lk_past (by decide +kernel)).trans lk_here)
theorem hall_put1 (x y z v : V) : putF "there" v (nmHall.zip [x, y, z]) = nmHall.zip [v, y, z] := put_here
theorem hall_put2 (x y z v : V) : putF "dead" v (nmHall.zip [x, y, z]) = nmHall.zip [x, v, z] := (put_past (by decide +kernel)).trans (congrArg _ put_here)
theorem hall_put3 (x y z v : V) : putF "pairs" v (nmHall.zip [x, y, z]) = nmHall.zip [x, y, v] := (put_past (by decide +kernel)).trans (congrArg _ ((put_past (by decide +kernel)).trans (congrArg _ put_here)))
def HallObj (K : PySem.W.Frag) (H : Hp) (h l : Addr) (here dead : Nat) : Prop := ∃ dx, H h = some (.ins (He.ga K "Hall") dx (nmHall.zip [.int (here : Int), .int (dead : Int), .ref l]))
def HallAt (K : PySem.W.Frag) (H : Hp) (h l : Addr) (n : Now) : Prop := HallObj K H h l n.here n.dead ∧ PairsAt H l n.stands
theorem HallAt.ex {H H' : Hp} {h l : Addr} {n : Now} (a : HallAt K H h l n) (e : Ex H H') : HallAt K H' h l n := ⟨⟨a.1.choose, e _ _ a.1.choose_spec⟩, a.2.ex e⟩
def sp_Hall (K : PySem.W.Frag) : Sp := fun vs H Q _ => ∃ (p dx : Addr), vs = [.ref p] ∧ H p = some (.ins (He.ga K "Hall") dx []) ∧ ∀ l H2, H l = none → ExB p H H2 → HallAt K H2 p l Vbpxaf.begin_ → Q .non H2
theorem ok_Hall (S : Top K mg) : HasC P w K mg base "Hall" 1 P_Hall_init (sp_Hall K) := by
  refine hasC_of (g_Hall S) (mk_Hall S) (fn_Hall_init S) sc_Hall_init bi_Hall_init (fun vs H Q E h => ?_) (fun cdv A outer s H vs Q E hr h => ?_)
  · obtain ⟨p, dx, rfl, _⟩ := h
    rfl
  · obtain ⟨p, dx, rfl, hp, k⟩ := h
    refine ⟨_, (pss_cons (ps_f K (pv 0) pe_int)
      (pss_cons (ps_f K (pv 0) pe_int)
      (pss_one (ps_f K (pv 0) (pe_lst pa_nil))))), ?_⟩
    refine ⟨_, rfl, p, _, dx, [], rfl, hp, cl_Hall S, na_Hall_there S, by simp, ?_⟩
    refine ⟨_, rfl, p, _, dx, _, rfl, upd_same, cl_Hall S, na_Hall_dead S, by simp [putF], ?_⟩
    rw [upd_upd]
    refine ⟨by decide, fun l hl => ?_⟩
    have lne : l ≠ p := fun z => by rw [z, upd_same] at hl; cases hl
    have hl0 : H l = none := by rw [upd_ne lne] at hl; exact hl
    refine ⟨_, rfl, p, _, dx, _, rfl, by rw [upd_ne (Ne.symm lne), upd_same], cl_Hall S, na_Hall_pairs S, ?_, ?_⟩
    · have e1 : putF "dead" (.int 0) (putF "there" (.int 0) []) = ([("there", .int 0), ("dead", .int 0)] : List (Str × V)) := (put_past (by decide +kernel)).trans rfl
      rw [e1]
      simp
    · rw [hallF]
      refine k l _ hl0 (fun b o n hb => ?_) ⟨⟨dx, upd_same⟩, [], ?_, .nil⟩
      · rw [upd_ne n, upd_ne (ne_of_none hb hl0), upd_ne n]
        exact hb
      · rw [upd_ne lne, upd_same]
        rfl
theorem er_hall {σ : L2.St} {H : Hp} {E : XK} {Q : VK} (k : ∀ h l H2, H h = none → H l = none → h ≠ l → Ex H H2 → HallAt K H2 h l Vbpxaf.begin_ → Q (.ref h) H2) : tMake (He.ga K "Hall") (sp_Hall K) [] E tNil σ H Q := fun p dx hp hdx ne => by
  refine ⟨p, dx, rfl, upd_same, fun l H2 hl e2 hA => ⟨rfl, k p l H2 hp ?_ ?_ (fun b o hb => ?_) hA⟩⟩
  · have lne : l ≠ p := fun z => by rw [z, upd_same] at hl; cases hl
    rw [upd_ne lne] at hl
    by_cases z : l = dx
    · rw [z, upd_same] at hl
      cases hl
    · rw [upd_ne z] at hl
      exact hl
  · exact fun z => by rw [← z, upd_same] at hl; cases hl
  · have n1 : b ≠ p := ne_of_none hb hp
    exact e2 b o n1 (by rw [upd_ne n1, upd_ne (ne_of_none hb hdx)]; exact hb)
/-- the hall is one of k officers -/
structure NowOk (k : Nat) (n : Now) : Prop where
  k6 : k ≤ 6
  here : n.here < 2 ^ k
  dead : n.dead < 2 ^ k
  stands : In k n.stands
def sp_act (K : PySem.W.Frag) : Sp := fun vs H Q _ => ∃ (h l : Addr) (n : Now) (f : File), vs = [.ref h] ∧ HallAt K H h l n ∧ NowOk (count f) n ∧ RetV (.int (acting f n : Nat)) H Q
theorem sub_trans {k a b : Nat} {S : Nat → Bool} (h1 : Sub k a (bit b)) (h2 : Sub k b S) : Sub k a S := fun n hn h => h2 n hn (h1 n hn h)
theorem ok_those_who_act (S : Top K mg) : Has P w K mg base CX0 "those_who_act" 3 P_those_who_act (sp_act K) := by
  refine has_of (g_those_who_act S) (fn_those_who_act S) sc_those_who_act bi_those_who_act (fun vs H Q E h => ?_) (fun cdv A outer s H vs Q E hr h => ?_)
  · obtain ⟨h, l, n, f, rfl, _⟩ := h
    rfl
  · obtain ⟨h, l, n, f, rfl, ⟨⟨dx, hh⟩, hp⟩, ok, k1⟩ := h
    refine ⟨_, (pss_cons (ps_set (i := 1) sc_those_who_act.nd rfl (Or.inl rfl) pe_int)
      (pss_cons (ps_set (i := 2) sc_those_who_act.nd rfl (Or.inl rfl) (pe_f K (pv 0)))
      (pss_cons (ps_while PassesOwn.never (pt_cmpR op_ne (pv 2) (pv 1) (nomark _))
      (pss_cons (ps_set (i := 1) sc_those_who_act.nd rfl (Or.inl rfl) (pv 2))
      (pss_one (ps_set (i := 2) sc_those_who_act.nd rfl (Or.inl rfl) (pe_h (ok_with_those_stood_for S) (hr.mono (by omega)) rfl (pa_cons (pv 1) (pa_cons (pe_f K (pv 0)) pa_nil)))))))
      (pss_one (ps_ret (pv 1)))))), ?_⟩
    obtain ⟨hk, hhere, hdead, hst⟩ := ok
    refine q_asg ev_c fun H1 e1 => ?_
    refine q_asg (ev_fld (ev_var rfl) (e1 _ _ hh) (cl_Hall S) (na_Hall_there S) (hall_there _ _ _)) fun H2 e2 => ?_
    have e12 : Ex H H2 := e1.trans e2
    refine q_while (fun m σ' H' => ∃ c g : Nat, σ' = [some (.ref h), some (.int (c : Int)), some (.int (g : Int))] ∧ Ex H H' ∧ c < 2 ^ count f ∧ g < 2 ^ count f ∧ m = 128 - c - g ∧ ((c = 0 ∧ g = n.here) ∨ (g = stepP c n.stands ∧ Sub (count f) n.here (bit c))) ∧
        (∀ T, Closed n.stands T → Sub (count f) n.here T → Sub (count f) c T) ∧ (∀ T, Closed n.stands T → Sub (count f) n.here T → Sub (count f) g T)) (128 - 0 - n.here)
      ⟨0, n.here, rfl, e12, Nat.two_pow_pos _, hhere, rfl, .inl ⟨rfl, rfl⟩, fun T _ _ m hm hb => ?_, fun T _ hT => hT⟩ ?_
    · unfold Vbpxaf.bit at hb
      simp at hb
    · rintro m σ' H' ⟨c, g, rfl, e3, hc, hg, rfl, hcase, hcT, hgT⟩
      have h64 := pow64 hk
      refine ⟨!decide (g = c), et_is (et_test (ev_op (ev_var rfl) (ev_var rfl) (rv_ne rfl))) (by rw [dec_int]; exact congrArg _ (decide_eq_decide.mpr (by omega))), fun hb H3 e4 => ?_, fun hb H3 e4 => ?_⟩
      · have hne : g ≠ c := by simpa using hb
        have hlt : c < g := by
          rcases hcase with ⟨rfl, rfl⟩ | ⟨rfl, hs⟩
          · omega
          · have := le_of_sub hk hc hg (stepP_mono hk hst hc)
            omega
        have hsg := stepP_lt hk hst hg
        have hle := le_of_sub hk hg hsg (stepP_mono hk hst hg)
        have hhg : Sub (count f) n.here (bit g) := by
          rcases hcase with ⟨rfl, rfl⟩ | ⟨rfl, hs⟩
          · exact fun _ _ z => z
          · exact sub_trans hs (stepP_mono hk hst hc)
        refine ⟨fun σ2 H2 => ∃ g2 : Nat, σ2 = [some (.ref h), some (.int (g : Int)), some (.int (g2 : Int))] ∧ Ex H H2 ∧ g2 = stepP g n.stands, ?_, ?_⟩
        · rintro σ2 H2 ⟨g2, rfl, e5, rfl⟩
          exact ⟨128 - g - stepP g n.stands, by omega, g, _, rfl, e5, hg, hsg, rfl, .inr ⟨rfl, hhg⟩, hgT, fun T h1 h2 => stepP_in hk hst hg h1 (hgT T h1 h2)⟩
        · have e34 := e3.trans e4
          refine q_asg (ev_var rfl) fun H4 e5 => ?_
          refine s_asg (ev_h (ea_cons (ev_var rfl) (ea_cons (ev_fld (ev_var rfl) (e5 _ _ (e34 _ _ hh)) (cl_Hall S) (na_Hall_pairs S) (hall_pairs _ _ _)) ea_nil)) fun H5 e6 Q E q => ⟨l, n.stands, count f, g, rfl, hp.ex ((e34.trans e5).trans e6), hk, hst, hg, q⟩) fun H5 e6 => ⟨_, rfl, (e34.trans e5).trans e6, rfl⟩
      · have heq : g = c := by simpa using hb
        subst heq
        have hact : g = acting f n := by
          rcases hcase with ⟨rfl, h0⟩ | ⟨hfix, hs⟩
          · refine act_unique hk hst hhere hc (fun m hm hb => ?_) (fun x hx hb => ?_) hcT
            · rw [← h0] at hb
              exact hb
            · have z : bit 0 x.1 = false := by unfold Vbpxaf.bit; simp
              rw [z] at hb
              cases hb
          · exact act_unique hk hst hhere hc hs (stepP_fix hk hst hc hfix.symm) hcT
        rw [← hact] at k1
        exact s_ret (ev_var rfl) fun H4 e5 => k1 H4 ((e3.trans e4).trans e5)
/-! ### a pair among the pairs -/
def pd (x : Nat × Nat) : PyData := .tuple [.int (x.1 : Int), .int (x.2 : Int)]
theorem dp_pair {H : Hp} {p : Addr} {x : Nat × Nat} (h : PairAt H p x) : Dp K H (.ref p) (pd x) := .tup (st_of h) (.cons (.int _) (.cons (.int _) .nil))
theorem dp_pairs {H : Hp} {ps : List Addr} {s : Pairs} (h : Paired (PairAt H) ps s) : DpAll K H (ps.map V.ref) (s.map pd) := by
  induction h with
  | nil => exact .nil
  | cons r _ ih => exact .cons (dp_pair r) ih
theorem pd_eqv (x y : Nat × Nat) : PyData.eqv (pd x) (pd y) = (x == y) := by
  show ((x.1 : Int) == (y.1 : Int) && ((x.2 : Int) == (y.2 : Int) && true)) = (x == y)
  obtain ⟨a, b⟩ := x
  obtain ⟨c, d⟩ := y
  rw [Bool.and_true, Bool.eq_iff_iff]
  simp
  omega
theorem pd_depth (x : Nat × Nat) : (pd x).depth = 1 := rfl
theorem pd_shape (x : Nat × Nat) : SeqAt.shaped (pd x) = true := by
  unfold SeqAt.shaped
  rw [pd_depth]
  rfl
theorem pds_lay : ∀ s : Pairs, PyData.canLayAll0 (s.map pd) = true
  | [] => rfl
  | x :: s => pds_lay s
theorem pds_depth : ∀ s : Pairs, PyData.depthAll (s.map pd) ≤ 10
  | [] => by decide
  | x :: s => by
    have := pds_depth s
    have e : PyData.depthAll ((x :: s).map pd) = max (pd x).depth (PyData.depthAll (s.map pd)) := rfl
    rw [e]
    have e2 := pd_depth x
    omega
theorem pds_shape (s : Pairs) : SeqAt.shaped (.list (s.map pd)) = true := by
  unfold SeqAt.shaped
  rw [Bool.and_eq_true, decide_eq_true_eq]
  refine ⟨pds_lay s, ?_⟩
  have := pds_depth s
  have e : (PyData.list (s.map pd)).depth = PyData.depthAll (s.map pd) + 1 := rfl
  omega
theorem ev_inP {σ : L2.St} {H : Hp} {ta tb : TE} {x : Nat × Nat} {l : Addr} {s : Pairs} (ha : EvU ta σ H [.int (x.1 : Int), .int (x.2 : Int)]) (hb : Ev tb σ H (.ref l)) (h : PairsAt H l s) : Ev (tOp (rInD K) ta tb) σ H (.bl (s.contains x)) := fun H1 e1 Q q =>
  ha H1 e1 _ fun p H2 hp e2 h2 => hb H2 (e1.trans e2) _ fun H3 e3 => by
    obtain ⟨ps, h3, h4⟩ := h.ex ((e1.trans e2).trans e3)
    refine ⟨pd x, s.map pd, dp_pair (e3 _ _ h2), .lst (sq_of h3) (dp_pairs h4), pd_shape x, pds_shape s, ?_⟩
    have e : ((s.map pd).any fun z => PyData.eqv z (pd x)) = s.contains x := by
      rw [List.any_map, List.contains_eq_any_beq]
      congr 1
      funext y
      show PyData.eqv (pd y) (pd x) = (x == y)
      rw [pd_eqv, Bool.eq_iff_iff, beq_iff_eq, beq_iff_eq]
      exact ⟨fun z => z.symm, fun z => z.symm⟩
    rw [e]
    exact q H3 (e2.trans e3)
def sp_may_stand (K : PySem.W.Frag) : Sp := fun vs H Q _ => ∃ (h l : Addr) (n : Now) (k a b : Nat), vs = [.ref h, .int (a : Int), .int (b : Int)] ∧ HallAt K H h l n ∧ NowOk k n ∧ a < k ∧ b < k ∧
  RetV (.bl (decide (a ≠ b) && (!bit n.dead a && (!bit n.dead b && !n.stands.contains (a, b))))) H Q
theorem ok_may_stand (S : Top K mg) : Has P w K mg base CX0 "may_stand" 2 P_may_stand (sp_may_stand K) := by
  refine has_of (g_may_stand S) (fn_may_stand S) sc_may_stand bi_may_stand (fun vs H Q E h => ?_) (fun cdv A outer s H vs Q E hr h => ?_)
  · obtain ⟨h, l, n, k, a, b, rfl, _⟩ := h
    rfl
  · obtain ⟨h, l, n, k, a, b, rfl, ⟨⟨dx, hh⟩, hp⟩, ok, ha, hb, k1⟩ := h
    refine ⟨_, (pss_cons (ps_if (PW.pt (pw_or (pt_cmpR op_eq (pv 1) (pv 2) (nomark _)) (pw_or1 (pt_cmpR (inD K (hu65 hr)) (pe_tup (pa_cons (pv 1) (pa_cons (pv 2) pa_nil))) (pe_f K (pv 0)) (by rfl)))))
      (pss_one (ps_ret pe_bl)) pss_nil)
      (pss_one (ps_ret (pe_and (pe_not (pe_h (ok_has S) (hr.mono (by omega)) rfl (pa_cons (pe_f K (pv 0)) (pa_cons (pv 1) pa_nil)))) (pe_one (pe_not (pe_h (ok_has S) (hr.mono (by omega)) rfl (pa_cons (pe_f K (pv 0)) (pa_cons (pv 2) pa_nil))))))))), ?_⟩
    have h64 := pow64 ok.k6
    have hk := ok.k6
    have hd := ok.dead
    refine q_when (b := decide (a = b) || n.stands.contains (a, b)) (et_or (et_is (et_test (ev_op (ev_var rfl) (ev_var rfl) (rv_eq rfl))) (by rw [dec_int]; exact decide_eq_decide.mpr (by omega))) fun _ => et_test (ev_inP (x := (a, b)) (eu_tup (ea_cons (ev_var rfl) (ea_cons (ev_var rfl) ea_nil)) (by simp)) (ev_fld (ev_var rfl) hh (cl_Hall S) (na_Hall_pairs S) (hall_pairs _ _ _)) hp)) (fun hc H1 e1 => ?_) fun hc H1 e1 => ?_
    · have e : (decide (a ≠ b) && (!bit n.dead a && (!bit n.dead b && !n.stands.contains (a, b)))) = false := by
        rcases Bool.or_eq_true_iff.mp hc with h1 | h1
        · have := of_decide_eq_true h1
          simp [this]
        · rw [h1]
          simp
      rw [e] at k1
      exact s_ret ev_c fun H2 e2 => k1 H2 (e1.trans e2)
    · obtain ⟨h1, h2⟩ := Bool.or_eq_false_iff.mp hc
      have e : (decide (a ≠ b) && (!bit n.dead a && (!bit n.dead b && !n.stands.contains (a, b)))) = (!bit n.dead a && !bit n.dead b) := by
        have := of_decide_eq_false h1
        rw [h2, decide_eq_true this]
        simp
      rw [e] at k1
      exact s_ret (ev_andV (ev_notV (ev_has (ev_fld (ev_var rfl) (e1 _ _ hh) (cl_Hall S) (na_Hall_dead S) (hall_dead _ _ _)) (ev_var rfl) (by omega) (by omega))) fun _ => ev_notV (ev_has (ev_fld (ev_var rfl) (e1 _ _ hh) (cl_Hall S) (na_Hall_dead S) (hall_dead _ _ _)) (ev_var rfl) (by omega) (by omega))) fun H2 e2 => k1 H2 (e1.trans e2)
/-! ### events as objects -/
def nmEvent : List Str := ["kind", "officers"]
theorem eventF (x y : V) : putF "officers" y (putF "kind" x []) = nmEvent.zip [x, y] := (put_past (by decide +kernel)).trans rfl
theorem event_kind (x y : V) : (nmEvent.zip [x, y]).lookup ("kind" : Str) = some x := lk_here
theorem event_offs (x y : V) : (nmEvent.zip [x, y]).lookup ("officers" : Str) = some y := (lk_past (by decide +kernel)).trans lk_here
theorem ok_Event (S : Top K mg) : HasC P w K mg base "Event" 1 P_Event_init (sp_rec K "Event" nmEvent) := by
  refine hasC_of (g_Event S) (mk_Event S) (fn_Event_init S) sc_Event_init bi_Event_init (fun vs H Q E h => ?_) (fun cdv A outer s H vs Q E hr h => ?_)
  · obtain ⟨p, dx, vals, rfl, hl, _⟩ := h
    show vals.length + 1 = 3
    rw [hl]
    rfl
  · obtain ⟨p, dx, vals, rfl, hl, hp, k⟩ := h
    obtain ⟨x, y, rfl⟩ : ∃ x y, vals = [x, y] := by
      match vals, hl with
      | [x, y], _ => exact ⟨x, y, rfl⟩
    refine ⟨_, (pss_cons (ps_f K (pv 0) (pv 1))
      (pss_one (ps_f K (pv 0) (pv 2)))), ?_⟩
    refine ⟨_, rfl, _, rfl, p, _, dx, [], rfl, hp, cl_Event S, na_Event_kind S, by simp, ?_⟩
    refine ⟨_, rfl, _, rfl, p, _, dx, _, rfl, upd_same, cl_Event S, na_Event_officers S, by simp [putF], ?_⟩
    rw [upd_upd, eventF]
    exact k
def kindB : Vbpxaf.Event → List Nat
  | .come _ => Vbpxaf.W "come"
  | .go _ => Vbpxaf.W "go"
  | .die _ => Vbpxaf.W "die"
  | .stand _ _ => Vbpxaf.W "stand"
  | .open_ => Vbpxaf.W "open"
def offs : Vbpxaf.Event → List Nat
  | .come n => [n]
  | .go n => [n]
  | .die n => [n]
  | .stand n m => [n, m]
  | .open_ => []
def EventAt (K : PySem.W.Frag) (H : Hp) (p : Addr) (e : Vbpxaf.Event) : Prop := ∃ dx l, H p = some (.ins (He.ga K "Event") dx (nmEvent.zip [.str (st (kindB e)), .ref l])) ∧ H l = some (.lst (nats (offs e)))
theorem EventAt.ex {H H' : Hp} {p : Addr} {e : Vbpxaf.Event} (h : EventAt K H p e) (x : Ex H H') : EventAt K H' p e := by
  obtain ⟨dx, l, h1, h2⟩ := h
  exact ⟨dx, l, x _ _ h1, x _ _ h2⟩
theorem lit_come : ("come" : Str) = st (Vbpxaf.W "come") := by decide +kernel
theorem lit_go : ("go" : Str) = st (Vbpxaf.W "go") := by decide +kernel
theorem lit_die : ("die" : Str) = st (Vbpxaf.W "die") := by decide +kernel
theorem lit_stand : ("stand" : Str) = st (Vbpxaf.W "stand") := by decide +kernel
theorem lit_open : ("open" : Str) = st (Vbpxaf.W "open") := by decide +kernel
def isK (k : List Nat) (e : Vbpxaf.Event) : Bool := decide (kindB e = k)
/-- event.kind == KIND -/
theorem et_kind {σ : L2.St} {H : Hp} {p : Addr} {e : Vbpxaf.Event} {te : TE} {z : Str} {k : List Nat} (S : Top K mg) (h : EventAt K H p e) (h1 : Ev te σ H (.ref p)) (hz : z = st k) : EvT (tTest (tOp rEq (tFld K te "kind") (tC (.str z)))) σ H (isK k e) := by
  obtain ⟨dx, l, h2, h3⟩ := h
  subst hz
  exact et_is (et_test (ev_op (ev_fld h1 h2 (cl_Event S) (na_Event_kind S) (event_kind _ _)) ev_c (rv_eq rfl))) (dec_st _ _)
theorem ev_off {σ : L2.St} {H : Hp} {p : Addr} {e : Vbpxaf.Event} {te : TE} {i n : Nat} (S : Top K mg) (h : EventAt K H p e) (h1 : Ev te σ H (.ref p)) (hi : (offs e)[i]? = some n) : Ev (tOp (rIxL K) (tFld K te "officers") (tC (.int (i : Int)))) σ H (.int (n : Int)) := by
  obtain ⟨dx, l, h2, h3⟩ := h
  refine ev_op (ev_fld h1 h2 (cl_Event S) (na_Event_officers S) (event_offs _ _)) ev_c (rv_ixL (sq_of h3) (atI_nat ?_))
  unfold nats
  rw [List.getElem?_map, hi]
  rfl
def sp_may_be (K : PySem.W.Frag) : Sp := fun vs H Q _ => ∃ (h l t p : Addr) (n : Now) (f : File) (e : Vbpxaf.Event), vs = [.ref h, .ref t, .ref p] ∧ HallAt K H h l n ∧ NowOk (count f) n ∧ Tab K H t (count f) (may f) ∧ EventAt K H p e ∧ (∀ x ∈ offs e, x < count f) ∧ RetV (.bl (mayBe f n e)) H Q
theorem kinds_ne : Vbpxaf.W "come" ≠ Vbpxaf.W "go" ∧ Vbpxaf.W "come" ≠ Vbpxaf.W "die" ∧ Vbpxaf.W "come" ≠ Vbpxaf.W "stand" ∧ Vbpxaf.W "come" ≠ Vbpxaf.W "open" ∧ Vbpxaf.W "go" ≠ Vbpxaf.W "die" ∧ Vbpxaf.W "go" ≠ Vbpxaf.W "stand" ∧ Vbpxaf.W "go" ≠ Vbpxaf.W "open" ∧
  Vbpxaf.W "die" ≠ Vbpxaf.W "stand" ∧ Vbpxaf.W "die" ≠ Vbpxaf.W "open" ∧ Vbpxaf.W "stand" ≠ Vbpxaf.W "open" := by decide +kernel
theorem mb_come (f : File) (n : Now) (x : Nat) : mayBe f n (.come x) = (decide (x < count f) && (!bit n.dead x && !bit n.here x)) := rfl
theorem mb_go (f : File) (n : Now) (x : Nat) : mayBe f n (.go x) = (bit n.here x && decide (x < count f)) := rfl
theorem mb_die (f : File) (n : Now) (x : Nat) : mayBe f n (.die x) = (decide (x < count f) && !bit n.dead x) := rfl
theorem mb_stand (f : File) (n : Now) (x y : Nat) : mayBe f n (.stand x y) = (decide (x < count f ∧ y < count f ∧ x ≠ y) && (!bit n.dead x && (!bit n.dead y && !n.stands.contains (x, y)))) := rfl
theorem acting_lt {f : File} {n : Now} (ok : NowOk (count f) n) : acting f n < 2 ^ count f := reach_lt ok.here
theorem ok_may_be (S : Top K mg) : Has P w K mg base CX0 "may_be" 4 P_may_be (sp_may_be K) := by
  refine has_of (g_may_be S) (fn_may_be S) sc_may_be bi_may_be (fun vs H Q E h => ?_) (fun cdv A outer s H vs Q E hr h => ?_)
  · obtain ⟨h, l, t, p, n, f, e, rfl, _⟩ := h
    rfl
  · obtain ⟨h, l, t, p, n, f, e, rfl, hA, ok, hT, hE, hin, k1⟩ := h
    refine ⟨_, (pss_cons (ps_if (pt_cmpR op_eq (pe_f K (pv 2)) (pe_gs (g_UNLOCK S) rfl) (nomark _))
      (pss_one (ps_ret (pe_ix (ixL K) (pv 1) (pe_h (ok_those_who_act S) (hr.mono (by omega)) rfl (pa_cons (pv 0) pa_nil)) (fun _ _ => rfl)))) pss_nil)
      (pss_cons (ps_set (i := 3) sc_may_be.nd rfl (Or.inl rfl) (pe_ix (ixL K) (pe_f K (pv 2)) pe_int (fun _ _ => rfl)))
      (pss_cons (ps_if (pt_cmpR op_eq (pe_f K (pv 2)) (pe_gs (g_STAND S) rfl) (nomark _))
      (pss_one (ps_ret (pe_h (ok_may_stand S) (hr.mono (by omega)) rfl (pa_cons (pv 0) (pa_cons (pv 3) (pa_cons (pe_ix (ixL K) (pe_f K (pv 2)) pe_int (fun _ _ => rfl)) pa_nil)))))) pss_nil)
      (pss_cons (ps_if (pt_cmpR op_eq (pe_f K (pv 2)) (pe_gs (g_GO S) rfl) (nomark _))
      (pss_one (ps_ret (pe_h (ok_has S) (hr.mono (by omega)) rfl (pa_cons (pe_f K (pv 0)) (pa_cons (pv 3) pa_nil))))) pss_nil)
      (pss_cons (ps_if (PW.pt (pw_and (pt_cmpR op_eq (pe_f K (pv 2)) (pe_gs (g_COME S) rfl) (nomark _)) (pw_and1 (pt_val (pe_h (ok_has S) (hr.mono (by omega)) rfl (pa_cons (pe_f K (pv 0)) (pa_cons (pv 3) pa_nil)))))))
      (pss_one (ps_ret pe_bl)) pss_nil)
      (pss_one (ps_ret (pe_not (pe_h (ok_has S) (hr.mono (by omega)) rfl (pa_cons (pe_f K (pv 0)) (pa_cons (pv 3) pa_nil))))))))))), ?_⟩
    obtain ⟨c1, c2, c3, c4, c5, c6, c7, c8, c9, c10⟩ := kinds_ne
    have h64 := pow64 ok.k6
    have hk := ok.k6
    have hd := ok.dead
    have hh := ok.here
    refine q_when (et_kind S hE (ev_var rfl) lit_open) (fun hb H1 e1 => ?_) fun hb H1 e1 => ?_
    · have he : e = .open_ := by
        have hb' := of_decide_eq_true hb
        cases e with
        | open_ => rfl
        | come => exact absurd hb' c4
        | go => exact absurd hb' c7
        | die => exact absurd hb' c9
        | stand => exact absurd hb' c10
      subst he
      refine s_ret (ev_may (hT.ex e1) (acting_lt ok) (ev_var rfl) (ev_h (ea_cons (ev_var rfl) ea_nil) fun H2 e2 Q E q => ⟨h, l, n, f, rfl, hA.ex (e1.trans e2), ok, q⟩)) fun H2 e2 => k1 H2 (e1.trans e2)
    · have hno : e ≠ .open_ := fun z => by
        subst z
        exact absurd rfl (of_decide_eq_false hb)
      obtain ⟨a, ha⟩ : ∃ a, (offs e)[0]? = some a := by cases e <;> first | exact ⟨_, rfl⟩ | exact absurd rfl hno
      have hak : a < count f := hin a (List.mem_of_getElem? ha)
      refine q_asg (ev_off (i := 0) S (hE.ex e1) (ev_var rfl) ha) fun H2 e2 => ?_
      have e12 := e1.trans e2
      have hE2 := hE.ex e12
      obtain ⟨⟨dx, hh2⟩, hp2⟩ := hA.ex e12
      refine q_when (et_kind S hE2 (ev_var rfl) lit_stand) (fun hb2 H3 e3 => ?_) fun hb2 H3 e3 => ?_
      · have hb' := of_decide_eq_true hb2
        cases e with
        | open_ => exact absurd rfl hno
        | come => exact absurd hb' c3
        | go => exact absurd hb' c6
        | die => exact absurd hb' c8
        | stand x y =>
          have hx : x = a := Option.some.inj ha
          subst hx
          have hy : y < count f := hin y (by simp [offs])
          have em : mayBe f n (.stand x y) = (decide (x ≠ y) && (!bit n.dead x && (!bit n.dead y && !n.stands.contains (x, y)))) := by
            rw [mb_stand]
            congr 1
            exact decide_eq_decide.mpr ⟨fun z => z.2.2, fun z => ⟨hak, hy, z⟩⟩
          rw [em] at k1
          exact s_ret (ev_h (ea_cons (ev_var rfl) (ea_cons (ev_var rfl) (ea_cons (ev_off (i := 1) S (hE2.ex e3) (ev_var rfl) rfl) ea_nil))) fun H4 e4 Q E q => ⟨h, l, n, count f, x, y, rfl, hA.ex ((e12.trans e3).trans e4), ok, hak, hy, q⟩) fun H4 e4 => k1 H4 ((e12.trans e3).trans e4)
      · have hE3 := hE2.ex e3
        have e13 := e12.trans e3
        have hh3 := e3 _ _ hh2
        refine q_when (et_kind S hE3 (ev_var rfl) lit_go) (fun hb3 H4 e4 => ?_) fun hb3 H4 e4 => ?_
        · have hb' := of_decide_eq_true hb3
          cases e with
          | open_ => exact absurd rfl hno
          | come => exact absurd hb' c1
          | die => exact absurd hb'.symm c5
          | stand => exact absurd hb'.symm c6
          | go x =>
            have hx : x = a := Option.some.inj ha
            subst hx
            have em : mayBe f n (.go x) = bit n.here x := by
              rw [mb_go, decide_eq_true hak, Bool.and_true]
            rw [em] at k1
            exact s_ret (ev_has (ev_fld (ev_var rfl) (e4 _ _ hh3) (cl_Hall S) (na_Hall_there S) (hall_there _ _ _)) (ev_var rfl) (by omega) (by omega)) fun H5 e5 => k1 H5 ((e13.trans e4).trans e5)
        · have hE4 := hE3.ex e4
          have hh4 := e4 _ _ hh3
          have e14 := e13.trans e4
          refine q_when (b := isK (Vbpxaf.W "come") e && bit n.here a) (et_and (et_kind S hE4 (ev_var rfl) lit_come) fun _ => et_B (ev_has (ev_fld (ev_var rfl) hh4 (cl_Hall S) (na_Hall_there S) (hall_there _ _ _)) (ev_var rfl) (by omega) (by omega))) (fun hb4 H5 e5 => ?_) fun hb4 H5 e5 => ?_
          · obtain ⟨q1, q2⟩ := Bool.and_eq_true_iff.mp hb4
            have hb' := of_decide_eq_true q1
            cases e with
            | open_ => exact absurd rfl hno
            | go => exact absurd hb'.symm c1
            | die => exact absurd hb'.symm c2
            | stand => exact absurd hb'.symm c3
            | come x =>
              have hx : x = a := Option.some.inj ha
              subst hx
              have em : mayBe f n (.come x) = false := by
                rw [mb_come, q2]
                simp
              rw [em] at k1
              exact s_ret ev_c fun H6 e6 => k1 H6 ((e14.trans e5).trans e6)
          · have em : mayBe f n e = !bit n.dead a := by
              cases e with
              | open_ => exact absurd rfl hno
              | go => exact absurd rfl (of_decide_eq_false hb3)
              | stand => exact absurd rfl (of_decide_eq_false hb2)
              | die x =>
                have hx : x = a := Option.some.inj ha
                subst hx
                rw [mb_die, decide_eq_true hak, Bool.true_and]
              | come x =>
                have hx : x = a := Option.some.inj ha
                subst hx
                have q1 : isK (Vbpxaf.W "come") (.come x) = true := decide_eq_true rfl
                rw [q1, Bool.true_and] at hb4
                rw [mb_come, decide_eq_true hak, Bool.true_and, hb4]
                simp
            rw [em] at k1
            exact s_ret (ev_notV (ev_has (ev_fld (ev_var rfl) (e5 _ _ hh4) (cl_Hall S) (na_Hall_dead S) (hall_dead _ _ _)) (ev_var rfl) (by omega) (by omega))) fun H6 e6 => k1 H6 ((e14.trans e5).trans e6)
end
end CK
/-! events.py: what happens -/
namespace CK
open PySem PySem.Spec PyProof.Rows L2 Evl
open Vbpxaf (bit count opens File nameOf Now mayBe done acting may)
section
variable {P : Program} {w : World} {K : PySem.W.Frag} {mg : Str → Option Value} {base : Heap}
/-! ### o.f = e -/
theorem s_fld {σ : L2.St} {H : Hp} {D : Ends} {ta tv : TE} {v : V} {a C dx : Addr} {fs : List (Str × V)} {f : Str} (hv : Ev tv σ H v) (ha : Ev ta σ H (.ref a)) (ho : H a = some (.ins C dx fs)) (c : Cls K C) (n : NoAttr K C f) (hl : fs.length < 1000)
    (k : ∀ H1, Ex H H1 → D.nx σ (upd H1 a (.ins C dx (putF f v fs)))) : sFld K ta tv f D σ H :=
  hv H (Ex.refl H) _ fun H1 e1 => ha H1 e1 _ fun H2 e2 => ⟨a, C, dx, fs, rfl, (e1.trans e2) _ _ ho, c, n, hl, k H2 (e1.trans e2)⟩
theorem q_fld {σ : L2.St} {H : Hp} {D : Ends} {tz : TS} {ta tv : TE} {v : V} {a C dx : Addr} {fs : List (Str × V)} {f : Str} (hv : Ev tv σ H v) (ha : Ev ta σ H (.ref a)) (ho : H a = some (.ins C dx fs)) (c : Cls K C) (n : NoAttr K C f) (hl : fs.length < 1000)
    (k : ∀ H1, Ex H H1 → tz D σ (upd H1 a (.ins C dx (putF f v fs)))) : tSeq (sFld K ta tv f) tz D σ H := s_fld (D := { D with nx := tz D }) hv ha ho c n hl k
theorem s_fldL {σ : L2.St} {H : Hp} {D : Ends} {ta tv : TE} {xs : List V} {a C dx : Addr} {fs : List (Str × V)} {f : Str} (hv : EvL tv σ H xs) (ha : Ev ta σ H (.ref a)) (ho : H a = some (.ins C dx fs)) (c : Cls K C) (n : NoAttr K C f) (hl : fs.length < 1000)
    (k : ∀ p H1, H p = none → Ex H H1 → H1 p = some (.lst xs) → D.nx σ (upd H1 a (.ins C dx (putF f (.ref p) fs)))) : sFld K ta tv f D σ H :=
  hv H (Ex.refl H) _ fun p H1 hp e1 h1 => ha H1 e1 _ fun H2 e2 => ⟨a, C, dx, fs, rfl, (e1.trans e2) _ _ ho, c, n, hl, k p H2 hp (e1.trans e2) (e2 _ _ h1)⟩
/-- f(..) by itself; x = e, the rest -/
theorem s_call {sp : Sp} {σ : L2.St} {H : Hp} {D : Ends} {E : XK} {ta : TA} {vs : List V} (h : EvA ta σ H vs) (k : ∀ H1, Ex H H1 → sp vs H1 (fun _ H2 => D.nx σ H2) E) : tDrop (tCall sp [] E ta) D σ H := h H (Ex.refl H) _ fun H1 e1 => by
  rw [List.append_nil]
  exact k H1 e1
theorem q_call {sp : Sp} {σ : L2.St} {H : Hp} {D : Ends} {tz : TS} {E : XK} {ta : TA} {vs : List V} (h : EvA ta σ H vs) (k : ∀ H1, Ex H H1 → sp vs H1 (fun _ H2 => tz D σ H2) E) : tSeq (tDrop (tCall sp [] E ta)) tz D σ H := s_call (D := { D with nx := tz D }) h k
theorem q_set {te : TE} {σ : L2.St} {H : Hp} {D : Ends} {tz : TS} {i : Nat} (h : te σ H fun v H1 => tz D (σ.set i (some v)) H1) : tSeq (tAsg te (gName i)) tz D σ H := h
theorem PairsAt.exB {H H' : Hp} {h l C dx : Addr} {fs : List (Str × V)} {s : Pairs} (a : PairsAt H l s) (hh : H h = some (.ins C dx fs)) (e : ExB h H H') : PairsAt H' l s := by
  obtain ⟨ps, h1, h2⟩ := a
  refine ⟨ps, e _ _ (fun z => ?_) h1, L2.Paired.mapP h2 fun q x z => e _ _ (fun y => ?_) z⟩
  · rw [z, hh] at h1
    cases h1
  · have z' : H q = some (.tup [.int (x.1 : Int), .int (x.2 : Int)]) := z
    rw [y, hh] at z'
    cases z'
def sp_bury (K : PySem.W.Frag) : Sp := fun vs H Q _ => ∃ (h l : Addr) (n : Now) (k x : Nat), vs = [.ref h, .int (x : Int)] ∧ HallAt K H h l n ∧ NowOk k n ∧ x < k ∧ n.stands.length ≤ 1000 ∧
  ∀ H2 l', ExB h H H2 → H l' = none → HallAt K H2 h l' (done n (.die x)) → Q .non H2
theorem filter_paired {H : Hp} (p : Nat × Nat → Bool) : ∀ {ps : List Addr} {s : Pairs}, Paired (PairAt H) ps s → ∃ qs : List Addr, qs.map V.ref = given ps.length (fun i => p (s.getD i (0, 0))) (fun i => (ps.map V.ref).getD i .non) ∧ Paired (PairAt H) qs (s.filter p) := by
  intro ps s h
  have hl := paired_len h
  have h1 : given ps.length (fun i => p (s.getD i (0, 0))) (fun i => (ps.map V.ref).getD i .non) = ((ps.zip s).filter fun z => p z.2).map fun z => V.ref z.1 := by
    have e : (ps.zip s).length = ps.length := by rw [List.length_zip]; omega
    rw [← given_filter (0, (0, 0)) (fun z => p z.2) (fun z => V.ref z.1) (ps.zip s), e]
    unfold given
    have hget : ∀ i, i < ps.length → (ps.zip s).getD i (0, (0, 0)) = (ps.getD i 0, s.getD i (0, 0)) := by
      intro i hi
      have hi2 : i < s.length := by omega
      have e : (ps.zip s)[i]? = some (ps[i], s[i]) := by
        rw [List.getElem?_eq_getElem (by rw [List.length_zip]; omega), List.getElem_zip]
      rw [getD_of e]
      simp [List.getD, hi, hi2]
    have e1 : (List.range ps.length).filter (fun i => p (s.getD i (0, 0))) = (List.range ps.length).filter (fun i => p ((ps.zip s).getD i (0, (0, 0))).2) := List.filter_congr fun i hi => by rw [hget i (List.mem_range.mp hi)]
    rw [e1]
    refine List.map_congr_left fun i hi => ?_
    have hi' := List.mem_range.mp (List.mem_filter.mp hi).1
    rw [hget i hi']
    simp [List.getD, hi']
  refine ⟨((ps.zip s).filter fun z => p z.2).map (·.1), by rw [h1, List.map_map]; rfl, ?_⟩
  clear h1 hl
  induction h with
  | nil => exact .nil
  | @cons a b l1 l2 r t ih =>
    rw [List.zip_cons_cons, List.filter_cons, List.filter_cons]
    cases hb : p b with
    | true => exact .cons r ih
    | false => exact ih
theorem ok_bury (S : Top K mg) : Has P w K mg base CX0 "bury" 2 P_bury (sp_bury K) := by
  refine has_of (g_bury S) (fn_bury S) sc_bury bi_bury (fun vs H Q E h => ?_) (fun cdv A outer s H vs Q E hr h => ?_)
  · obtain ⟨h, l, n, k, x, rfl, _⟩ := h
    rfl
  · obtain ⟨h, l, n, k, x, rfl, ⟨⟨dx, hh⟩, hp⟩, ok, hx, hz, kk⟩ := h
    refine ⟨_, (pss_cons (ps_if (pt_val (pe_h (ok_has S) (hr.mono (by omega)) rfl (pa_cons (pe_f K (pv 0)) (pa_cons (pv 1) pa_nil))))
      (pss_one (ps_f K (pv 0) (pe_op op_sub (pe_f K (pv 0)) (pe_h (ok_alone S) (hr.mono (by omega)) rfl (pa_cons (pv 1) pa_nil))))) pss_nil)
      (pss_cons (ps_f K (pv 0) (pe_op op_add (pe_f K (pv 0)) (pe_h (ok_alone S) (hr.mono (by omega)) rfl (pa_cons (pv 1) pa_nil))))
      (pss_one (ps_f K (pv 0) (pe_lc (own := [("pair", 2)]) rfl sc_bury.nd (piL K (pe_f K (pv 0))) (blkOk_by (own := [("pair", 2)]) (N := N_bury) (sc := defScope s_bury) (by decide +kernel)) (fun _ _ _ _ _ => (pg_name (i := 2) sc_bury.nd rfl (Or.inl rfl))) (fun _ _ _ _ _ => (pts_one (pt_cmpR op_ne (pe_ix (ixT K) (pv 2) pe_int (fun _ _ => rfl)) (pv 1) (nomark _)))) (fun _ _ _ _ _ => (pv 2))))))), ?_⟩
    have h64 := pow64 ok.k6
    have hk := ok.k6
    have hd := ok.dead
    have hhr := ok.here
    -- behind the first if
    have rest : ∀ (here' : Nat) (H1 : Hp), here' = (if bit n.here x = true then n.here - 2 ^ x else n.here) → ExB h H H1 → H1 h = some (.ins (He.ga K "Hall") dx (nmHall.zip [.int (here' : Int), .int (n.dead : Int), .ref l])) →
        tSeq (sFld K (tVar 0) (tOp (rI0 fun i j => .int (i + j)) (tFld K (tVar 0) "dead") (tCall sp_alone [] E0 (tCons (tVar 1) tNil))) "dead")
          (sFld K (tVar 0) (tLc (iList K (tFld K (tVar 0) "pairs")) (gName 2) (tTest (tOp rNe (tOp (rIxT K) (tVar 2) (tC (.int 0))) (tVar 1))) (tVar 2) [2]) "pairs") { nx := fun _ H' => Q .non H', rt := Q } (L2.start N_bury [.ref h, .int (x : Int)]) H1 := by
      intro here' H1 hhere e1 h1
      have hp1 : PairsAt H1 l n.stands := hp.exB hh e1
      refine q_fld (v := .int ((n.dead + 2 ^ x : Nat) : Int)) (ev_is (ev_op (ev_fld (ev_var rfl) h1 (cl_Hall S) (na_Hall_dead S) (hall_dead _ _ _)) (ev_alone (ev_var rfl) (by omega)) rv_I0) (congrArg V.int (by rw [Int.natCast_add]))) (ev_var rfl) h1 (cl_Hall S) (na_Hall_dead S) (by simp [nmHall]) fun H2 e2 => ?_
      rw [hall_put2]
      have e12 : ExB h H1 (upd H2 h (.ins (He.ga K "Hall") dx (nmHall.zip [.int (here' : Int), .int ((n.dead + 2 ^ x : Nat) : Int), .ref l]))) := (Ex.b e2).trans ExB.upd
      have hp3 := hp1.exB h1 e12
      generalize hH3 : upd H2 h (.ins (He.ga K "Hall") dx (nmHall.zip [.int (here' : Int), .int ((n.dead + 2 ^ x : Nat) : Int), .ref l])) = H3 at e12 hp3 ⊢
      have h3 : H3 h = some (.ins (He.ga K "Hall") dx (nmHall.zip [.int (here' : Int), .int ((n.dead + 2 ^ x : Nat) : Int), .ref l])) := by rw [← hH3, upd_same]
      obtain ⟨ps, hl3, hps⟩ := hp3
      obtain ⟨qs, hqs, hqp⟩ := filter_paired (fun y => y.1 != x) hps
      have hlen := paired_len hps
      refine s_fldL (xs := qs.map V.ref) (el_is (el_lcL (K := K) (xs := ps.map V.ref) (fun i => (n.stands.getD i (0, 0)).1 != x) (fun i => (ps.map V.ref).getD i .non) (ev_fld (ev_var rfl) h3 (cl_Hall S) (na_Hall_pairs S) (hall_pairs _ _ _)) (sq_of hl3) (by rw [List.length_map]; omega) (fun _ => rfl) (fun i y H4 e4 hi => ?_) (fun i y H4 e4 hi _ => ?_)) ?_) (ev_var rfl) h3 (cl_Hall S) (na_Hall_pairs S) (by simp [nmHall]) fun p H4 hpn e4 h4 => ?_
      · obtain ⟨p, y, rfl, hy, hpy⟩ := pairs_get hps hi
        refine et_is (et_test (ev_op (ev_fst (e4 _ _ hpy : PairAt H4 p y) (ev_var rfl)) (ev_var rfl) (rv_ne rfl))) ?_
        rw [dec_int, getD_of hy]
        show (!decide ((y.1 : Int) = (x : Int))) = (y.1 != x)
        rw [bne, Bool.beq_eq_decide_eq]
        exact congrArg _ (decide_eq_decide.mpr (by omega))
      · rw [getD_of hi]
        exact ev_var rfl
      · rw [List.length_map]
        exact hqs.symm
      · rw [hall_put3]
        have eall : ExB h H (upd H4 h (.ins (He.ga K "Hall") dx (nmHall.zip [.int (here' : Int), .int ((n.dead + 2 ^ x : Nat) : Int), .ref p]))) := (e1.trans e12).trans ((Ex.b e4).trans ExB.upd)
        have pne : p ≠ h := fun z => by rw [z, h3] at hpn; cases hpn
        refine kk _ p eall ?_ ⟨⟨dx, ?_⟩, qs, by rw [upd_ne pne]; exact h4, L2.Paired.mapP hqp fun q y z => ?_⟩
        · cases q : H p with
          | none => rfl
          | some o =>
            have := (e1.trans e12) p o pne q
            rw [this] at hpn
            cases hpn
        · rw [upd_same, hhere]
          rfl
        · have z' : H3 q = some (.tup [.int (y.1 : Int), .int (y.2 : Int)]) := z
          have qne : q ≠ h := fun w => by rw [w, h3] at z'; cases z'
          show upd H4 h _ q = _
          rw [upd_ne qne]
          exact e4 _ _ z'
    refine q_when (b := bit n.here x) (et_B (ev_has (ev_fld (ev_var rfl) hh (cl_Hall S) (na_Hall_there S) (hall_there _ _ _)) (ev_var rfl) (by omega) (by omega))) (fun hb H1 e1 => ?_) fun hb H1 e1 => ?_
    · refine s_fld (v := .int ((n.here - 2 ^ x : Nat) : Int)) (ev_is (ev_op (ev_fld (ev_var rfl) (e1 _ _ hh) (cl_Hall S) (na_Hall_there S) (hall_there _ _ _)) (ev_alone (ev_var rfl) (by omega)) rv_I0) (congrArg V.int (sub_nat (bit_ge hb)))) (ev_var rfl) (e1 _ _ hh) (cl_Hall S) (na_Hall_there S) (by simp [nmHall]) fun H2 e2 => ?_
      rw [hall_put1]
      exact rest (n.here - 2 ^ x) _ (by rw [if_pos hb]) ((Ex.b (e1.trans e2)).trans ExB.upd) upd_same
    · exact rest n.here H1 (by rw [hb]; rfl) (Ex.b e1) (e1 _ _ hh)
/-! ### an event happens -/
theorem now_done {f : File} {n : Now} {e : Vbpxaf.Event} (ok : NowOk (count f) n) (h : mayBe f n e = true) : NowOk (count f) (done n e) := by
  obtain ⟨hk, h1, h2, h3⟩ := ok
  cases e with
  | open_ => exact ⟨hk, h1, h2, h3⟩
  | come x =>
    rw [mb_come] at h
    simp only [Bool.and_eq_true, decide_eq_true_eq, Bool.not_eq_true'] at h
    exact ⟨hk, bit_add' hk h.1 h1 h.2.2, h2, h3⟩
  | go x => exact ⟨hk, Nat.lt_of_le_of_lt (Nat.sub_le _ _) h1, h2, h3⟩
  | die x =>
    rw [mb_die] at h
    simp only [Bool.and_eq_true, decide_eq_true_eq, Bool.not_eq_true'] at h
    refine ⟨hk, ?_, bit_add' hk h.1 h2 h.2, fun y hy => h3 y (List.mem_filter.mp hy).1⟩
    show (if bit n.here x = true then n.here - 2 ^ x else n.here) < 2 ^ count f
    split
    · exact Nat.lt_of_le_of_lt (Nat.sub_le _ _) h1
    · exact h1
  | stand x y =>
    rw [mb_stand] at h
    simp only [Bool.and_eq_true, decide_eq_true_eq] at h
    refine ⟨hk, h1, h2, fun z hz => ?_⟩
    rcases List.mem_append.mp hz with hz | hz
    · exact h3 z hz
    · have e : z = (x, y) := by simpa using hz
      rw [e]
      exact ⟨h.1.1, h.1.2.1⟩
theorem offs_in {f : File} {n : Now} {e : Vbpxaf.Event} (h : mayBe f n e = true) : ∀ x ∈ offs e, x < count f := by
  intro x hx
  cases e with
  | open_ => cases hx
  | come y =>
    rw [mb_come] at h
    simp only [Bool.and_eq_true, decide_eq_true_eq] at h
    have e : x = y := by simpa [offs] using hx
    omega
  | go y =>
    rw [mb_go] at h
    simp only [Bool.and_eq_true, decide_eq_true_eq] at h
    have e : x = y := by simpa [offs] using hx
    omega
  | die y =>
    rw [mb_die] at h
    simp only [Bool.and_eq_true, decide_eq_true_eq] at h
    have e : x = y := by simpa [offs] using hx
    omega
  | stand y z =>
    rw [mb_stand] at h
    simp only [Bool.and_eq_true, decide_eq_true_eq] at h
    have e : x = y ∨ x = z := by simpa [offs] using hx
    omega
def ExH (h l : Addr) (H H' : Hp) : Prop := ∀ b o, b ≠ h → b ≠ l → H b = some o → H' b = some o
theorem ExB.h {h l : Addr} {H H' : Hp} (e : ExB h H H') : ExH h l H H' := fun b o n _ z => e b o n z
def sp_happen (K : PySem.W.Frag) : Sp := fun vs H Q _ => ∃ (h l p : Addr) (n : Now) (f : File) (e : Vbpxaf.Event), vs = [.ref h, .ref p] ∧ HallAt K H h l n ∧ NowOk (count f) n ∧ EventAt K H p e ∧ mayBe f n e = true ∧ n.stands.length ≤ 1000 ∧
  ∀ H2 l', ExH h l H H2 → (l' = l ∨ H l' = none) → HallAt K H2 h l' (done n e) → Q .non H2
theorem ok_happen (S : Top K mg) : Has P w K mg base CX0 "happen" 3 P_happen (sp_happen K) := by
  refine has_of (g_happen S) (fn_happen S) sc_happen bi_happen (fun vs H Q E h => ?_) (fun cdv A outer s H vs Q E hr h => ?_)
  · obtain ⟨h, l, p, n, f, e, rfl, _⟩ := h
    rfl
  · obtain ⟨h, l, p, n, f, e, rfl, ⟨⟨dx, hh⟩, hp⟩, ok, hE, hm, hz, kk⟩ := h
    refine ⟨_, (pss_one (ps_if (pt_cmpR op_eq (pe_f K (pv 1)) (pe_gs (g_COME S) rfl) (nomark _))
      (pss_one (ps_f K (pv 0) (pe_op op_add (pe_f K (pv 0)) (pe_h (ok_alone S) (hr.mono (by omega)) rfl (pa_cons (pe_ix (ixL K) (pe_f K (pv 1)) pe_int (fun _ _ => rfl)) pa_nil))))) (pss_one (ps_if (pt_cmpR op_eq (pe_f K (pv 1)) (pe_gs (g_GO S) rfl) (nomark _))
      (pss_one (ps_f K (pv 0) (pe_op op_sub (pe_f K (pv 0)) (pe_h (ok_alone S) (hr.mono (by omega)) rfl (pa_cons (pe_ix (ixL K) (pe_f K (pv 1)) pe_int (fun _ _ => rfl)) pa_nil))))) (pss_one (ps_if (pt_cmpR op_eq (pe_f K (pv 1)) (pe_gs (g_DIE S) rfl) (nomark _))
      (pss_one (ps_expr (pe_h (ok_bury S) (hr.mono (by omega)) rfl (pa_cons (pv 0) (pa_cons (pe_ix (ixL K) (pe_f K (pv 1)) pe_int (fun _ _ => rfl)) pa_nil))))) (pss_one (ps_if (pt_cmpR op_eq (pe_f K (pv 1)) (pe_gs (g_STAND S) rfl) (nomark _))
      (pss_one (ps_expr (pe_bmK K PySem.F.plainAttrs_list PySem.F.slot_list_append PySem.F.type_list_append mt_append (pe_f K (pv 0)) (pa_cons (pe_tup (pa_cons (pe_ix (ixL K) (pe_f K (pv 1)) pe_int (fun _ _ => rfl)) (pa_cons (pe_ix (ixL K) (pe_f K (pv 1)) pe_int (fun _ _ => rfl)) pa_nil))) pa_nil)))) pss_nil)))))))), ?_⟩
    obtain ⟨c1, c2, c3, c4, c5, c6, c7, c8, c9, c10⟩ := kinds_ne
    have hin := offs_in hm
    have h64 := pow64 ok.k6
    have hk := ok.k6
    refine s_if (et_kind S hE (ev_var rfl) lit_come) (fun hb H1 e1 => ?_) fun hb H1 e1 => ?_
    · have hb' := of_decide_eq_true hb
      cases e with
      | open_ => exact absurd hb'.symm c4
      | go => exact absurd hb'.symm c1
      | die => exact absurd hb'.symm c2
      | stand => exact absurd hb'.symm c3
      | come x =>
        have hx := hin x (by simp [offs])
        refine s_fld (v := .int ((n.here + 2 ^ x : Nat) : Int)) (ev_is (ev_op (ev_fld (ev_var rfl) (e1 _ _ hh) (cl_Hall S) (na_Hall_there S) (hall_there _ _ _)) (ev_alone (ev_off (i := 0) S (hE.ex e1) (ev_var rfl) rfl) (by omega)) rv_I0) (congrArg V.int (by rw [Int.natCast_add]))) (ev_var rfl) (e1 _ _ hh) (cl_Hall S) (na_Hall_there S) (by simp [nmHall]) fun H2 e2 => ?_
        rw [hall_put1]
        have eb : ExB h H (upd H2 h (.ins (He.ga K "Hall") dx (nmHall.zip [.int ((n.here + 2 ^ x : Nat) : Int), .int (n.dead : Int), .ref l]))) := (Ex.b (e1.trans e2)).trans ExB.upd
        exact kk _ l eb.h (.inl rfl) ⟨⟨dx, upd_same⟩, hp.exB hh eb⟩
    · refine s_if (et_kind S (hE.ex e1) (ev_var rfl) lit_go) (fun hb2 H2 e2 => ?_) fun hb2 H2 e2 => ?_
      · have hb' := of_decide_eq_true hb2
        cases e with
        | open_ => exact absurd hb'.symm c7
        | come => exact absurd hb' c1
        | die => exact absurd hb'.symm c5
        | stand => exact absurd hb'.symm c6
        | go x =>
          have hx := hin x (by simp [offs])
          have hbit : bit n.here x = true := by
            rw [mb_go] at hm
            exact (Bool.and_eq_true_iff.mp hm).1
          have e12 := e1.trans e2
          refine s_fld (v := .int ((n.here - 2 ^ x : Nat) : Int)) (ev_is (ev_op (ev_fld (ev_var rfl) (e12 _ _ hh) (cl_Hall S) (na_Hall_there S) (hall_there _ _ _)) (ev_alone (ev_off (i := 0) S (hE.ex e12) (ev_var rfl) rfl) (by omega)) rv_I0) (congrArg V.int (sub_nat (bit_ge hbit)))) (ev_var rfl) (e12 _ _ hh) (cl_Hall S) (na_Hall_there S) (by simp [nmHall]) fun H3 e3 => ?_
          rw [hall_put1]
          have eb : ExB h H (upd H3 h (.ins (He.ga K "Hall") dx (nmHall.zip [.int ((n.here - 2 ^ x : Nat) : Int), .int (n.dead : Int), .ref l]))) := (Ex.b (e12.trans e3)).trans ExB.upd
          exact kk _ l eb.h (.inl rfl) ⟨⟨dx, upd_same⟩, hp.exB hh eb⟩
      · have e12 := e1.trans e2
        refine s_if (et_kind S (hE.ex e12) (ev_var rfl) lit_die) (fun hb3 H3 e3 => ?_) fun hb3 H3 e3 => ?_
        · have hb' := of_decide_eq_true hb3
          cases e with
          | open_ => exact absurd hb'.symm c9
          | come => exact absurd hb' c2
          | go => exact absurd hb' c5
          | stand => exact absurd hb'.symm c8
          | die x =>
            have hx := hin x (by simp [offs])
            have e13 := e12.trans e3
            refine s_call (ea_cons (ev_var rfl) (ea_cons (ev_off (i := 0) S (hE.ex e13) (ev_var rfl) rfl) ea_nil)) fun H4 e4 => ?_
            have e14 := e13.trans e4
            exact ⟨h, l, n, count f, x, rfl, ⟨⟨dx, e14 _ _ hh⟩, hp.ex e14⟩, ok, hx, hz, fun H5 l' eb hl' hA => kk H5 l' ((Ex.b e14).trans eb).h (.inr (fresh_back e14 hl')) hA⟩
        · have e13 := e12.trans e3
          refine s_when (et_kind S (hE.ex e13) (ev_var rfl) lit_stand) (fun hb4 H4 e4 => ?_) fun hb4 H4 e4 => ?_
          · have hb' := of_decide_eq_true hb4
            cases e with
            | open_ => exact absurd hb'.symm c10
            | come => exact absurd hb' c3
            | go => exact absurd hb' c6
            | die => exact absurd hb' c8
            | stand x y =>
              have e14 := e13.trans e4
              obtain ⟨ps, hl, hps⟩ := hp.ex e14
              have hlen := paired_len hps
              refine s_appU hl (ev_fld (ev_var rfl) (e14 _ _ hh) (cl_Hall S) (na_Hall_pairs S) (hall_pairs _ _ _)) (eu_tup (ea_cons (ev_off (i := 0) S (hE.ex e14) (ev_var rfl) rfl) (ea_cons (ev_off (i := 1) S (hE.ex e14) (ev_var rfl) rfl) ea_nil)) (by simp)) (by rw [List.length_map]; omega) fun q H5 hq e5 h5 => ?_
              have lne : q ≠ l := fun z => by rw [z, hl] at hq; cases hq
              have hne : h ≠ l := fun z => by rw [← z, e14 _ _ hh] at hl; cases hl
              refine kk _ l (fun b o n1 n2 hb => ?_) (.inl rfl) ⟨⟨dx, ?_⟩, ps ++ [q], ?_, Paired.snoc (L2.Paired.mapP hps fun r z hr => ?_) ?_⟩
              · rw [upd_ne n2]
                exact (e14.trans e5) _ _ hb
              · rw [upd_ne hne]
                exact (e14.trans e5) _ _ hh
              · rw [upd_same]
                simp
              · have z' : H4 r = some (.tup [.int (z.1 : Int), .int (z.2 : Int)]) := hr
                have rne : r ≠ l := fun w => by rw [w, hl] at z'; cases z'
                show upd H5 l _ r = _
                rw [upd_ne rne]
                exact e5 _ _ z'
              · show upd H5 l _ q = _
                rw [upd_ne lne]
                exact h5
          · have he : e = .open_ := by
              cases e with
              | open_ => rfl
              | come => exact absurd rfl (of_decide_eq_false hb)
              | go => exact absurd rfl (of_decide_eq_false hb2)
              | die => exact absurd rfl (of_decide_eq_false hb3)
              | stand => exact absurd rfl (of_decide_eq_false hb4)
            subst he
            have e14 := e13.trans e4
            exact kk H4 l (Ex.b e14 : ExB h H H4).h (.inl rfl) ⟨⟨dx, e14 _ _ hh⟩, hp.ex e14⟩
/-! ### the hall behind events -/
def EventsAt (K : PySem.W.Frag) (H : Hp) (l : Addr) (es : List Vbpxaf.Event) : Prop := ∃ ps : List Addr, H l = some (.lst (ps.map V.ref)) ∧ Paired (EventAt K H) ps es
theorem EventsAt.ex {H H' : Hp} {l : Addr} {es : List Vbpxaf.Event} (h : EventsAt K H l es) (e : Ex H H') : EventsAt K H' l es := by
  obtain ⟨ps, h1, h2⟩ := h
  exact ⟨ps, e _ _ h1, L2.Paired.mapP h2 fun _ _ z => z.ex e⟩
/-- each event might be when it was -/
def Valid (f : File) (es : List Vbpxaf.Event) : Prop := ∀ i e, es[i]? = some e → mayBe f ((es.take i).foldl done Vbpxaf.begin_) e = true
theorem done_stands (n : Now) (e : Vbpxaf.Event) : (done n e).stands.length ≤ n.stands.length + 1 := by
  cases e with
  | stand x y => simp [Vbpxaf.done]
  | die x =>
    have := List.length_filter_le (fun y : Nat × Nat => y.1 != x) n.stands
    show (n.stands.filter fun y => y.1 != x).length ≤ _
    omega
  | come x => exact Nat.le_succ _
  | go x => exact Nat.le_succ _
  | open_ => exact Nat.le_succ _
theorem fold_take {es : List Vbpxaf.Event} {i : Nat} {e : Vbpxaf.Event} {n : Now} (h : es[i]? = some e) : (es.take (i + 1)).foldl done n = done ((es.take i).foldl done n) e := by
  rw [List.take_succ, h, List.foldl_append]
  rfl
theorem begin_ok {k : Nat} (hk : k ≤ 6) : NowOk k Vbpxaf.begin_ := ⟨hk, Nat.two_pow_pos _, Nat.two_pow_pos _, fun x hx => by cases hx⟩
theorem valid_now {f : File} {es : List Vbpxaf.Event} (hk : count f ≤ 6) (h : Valid f es) : ∀ i, i ≤ es.length → NowOk (count f) ((es.take i).foldl done Vbpxaf.begin_) ∧ ((es.take i).foldl done Vbpxaf.begin_).stands.length ≤ i
  | 0, _ => ⟨begin_ok hk, Nat.le_refl _⟩
  | i + 1, hi => by
    obtain ⟨h1, h2⟩ := valid_now hk h i (by omega)
    have he : es[i]? = some es[i] := List.getElem?_eq_getElem (by omega)
    rw [fold_take he]
    have := done_stands ((es.take i).foldl done Vbpxaf.begin_) es[i]
    exact ⟨now_done h1 (h i _ he), by omega⟩
theorem event_at_get {H : Hp} {ps : List Addr} {es : List Vbpxaf.Event} {i : Nat} {x : V} (h : Paired (EventAt K H) ps es) (hi : (ps.map V.ref)[i]? = some x) : ∃ p e, x = .ref p ∧ es[i]? = some e ∧ EventAt K H p e := by
  rw [List.getElem?_map] at hi
  obtain ⟨p, hp, rfl⟩ := Option.map_eq_some_iff.mp hi
  have hl := paired_len h
  have hlt := (List.getElem?_eq_some_iff.mp hp).1
  have hs : es[i]? = some es[i] := List.getElem?_eq_getElem (by omega)
  obtain ⟨q, hq, hq2⟩ := paired_at h hs
  rw [hp] at hq
  cases hq
  exact ⟨p, _, rfl, hs, hq2⟩
def sp_hall_behind (K : PySem.W.Frag) : Sp := fun vs H Q _ => ∃ (a : Addr) (f : File) (es : List Vbpxaf.Event), vs = [.ref a] ∧ EventsAt K H a es ∧ count f ≤ 6 ∧ Valid f es ∧ es.length ≤ 60 ∧
  ∀ h l H2, H h = none → H l = none → Ex H H2 → HallAt K H2 h l (es.foldl done Vbpxaf.begin_) → Q (.ref h) H2
theorem ok_hall_behind (S : Top K mg) : Has P w K mg base CX0 "hall_behind" 4 P_hall_behind (sp_hall_behind K) := by
  refine has_of (g_hall_behind S) (fn_hall_behind S) sc_hall_behind bi_hall_behind (fun vs H Q E h => ?_) (fun cdv A outer s H vs Q E hr h => ?_)
  · obtain ⟨a, f, es, rfl, _⟩ := h
    rfl
  · obtain ⟨a, f, es, rfl, ⟨ps, hl, hps⟩, hk, hv, hz, kk⟩ := h
    refine ⟨_, (pss_cons (ps_set (i := 1) sc_hall_behind.nd rfl (Or.inl rfl) (pe_mkK0 K (ok_Hall S) (hr.mono (by omega)) rfl))
      (pss_cons (ps_for PassesOwn.never rfl (piL K (pv 0)) (pg_name (i := 2) sc_hall_behind.nd rfl (Or.inl rfl))
      (pss_one (ps_expr (pe_h (ok_happen S) (hr.mono (by omega)) rfl (pa_cons (pv 1) (pa_cons (pv 2) pa_nil))))))
      (pss_one (ps_ret (pv 1))))), ?_⟩
    have hlen := paired_len hps
    refine q_set (er_hall fun h l H1 hh hl1 hne e1 hA => ?_)
    refine q_forLn (ev_var rfl) (sq_of (e1 _ _ hl)) (fun i σ' H' => ∃ v l', σ' = [some (.ref a), some (.ref h), v] ∧ Ex H H' ∧ H l' = none ∧ HallAt K H' h l' ((es.take i).foldl done Vbpxaf.begin_)) (fun H2 e2 => ⟨none, l, rfl, e1.trans e2, hl1, hA.ex e2⟩) (fun i σ' H' _ h => sq_of (h.choose_spec.choose_spec.2.1 _ _ hl)) ?_ ?_
    · rintro i x σ' H' hi ⟨v, l', rfl, e2, hl', hA'⟩
      obtain ⟨p, e, rfl, he, hpe⟩ := event_at_get hps hi
      have hi' : i < es.length := (List.getElem?_eq_some_iff.mp he).1
      obtain ⟨ok, hst⟩ := valid_now hk hv i (by omega)
      refine s_call (ea_cons (ev_var rfl) (ea_cons (ev_var rfl) ea_nil)) fun H3 e3 => ?_
      have e23 := e2.trans e3
      refine ⟨h, l', p, _, f, e, rfl, hA'.ex e3, ok, hpe.ex e23, hv i e he, by omega, fun H4 l'' eh hl'' hA4 => ?_⟩
      refine ⟨_, l'', rfl, fun b o hb => ?_, ?_, ?_⟩
      · refine eh b o (fun z => ?_) (fun z => ?_) (e23 _ _ hb)
        · rw [z, hh] at hb
          cases hb
        · rw [z, hl'] at hb
          cases hb
      · rcases hl'' with rfl | z
        · exact hl'
        · exact fresh_back e23 z
      · rw [fold_take he]
        exact hA4
    · rintro σ' H' ⟨v, l', rfl, e2, hl', hA'⟩
      rw [List.length_map, hlen, List.take_length] at hA'
      exact s_ret (ev_var rfl) fun H3 e3 => kk h l' H3 hh hl' (e2.trans e3) (hA'.ex e3)
/-! ### an event as a text -/
def sp_event_text (K : PySem.W.Frag) : Sp := fun vs H Q _ => ∃ (a p : Addr) (f : File) (e : Vbpxaf.Event), vs = [.ref a, .ref p] ∧ NamesAt K H a f ∧ EventAt K H p e ∧ (∀ x ∈ offs e, x < count f) ∧ RetV (.str (st (Vbpxaf.eventText f e))) H Q
theorem ev_text_eq (f : File) (e : Vbpxaf.Event) (h : e ≠ .open_) : kindB e ++ [32] ++ VbpxCore.between [32, 102, 111, 114, 32] ((offs e).map (nameOf f)) = Vbpxaf.eventText f e := by
  cases e with
  | open_ => exact absurd rfl h
  | come x => rfl
  | go x => rfl
  | die x => rfl
  | stand x y =>
    have e : Vbpxaf.W "for" = [102, 111, 114] := by decide +kernel
    show Vbpxaf.W "stand" ++ [32] ++ (nameOf f x ++ [32, 102, 111, 114, 32] ++ nameOf f y) = Vbpxaf.W "stand" ++ [32] ++ (nameOf f x ++ [32] ++ (Vbpxaf.W "for" ++ [32] ++ nameOf f y))
    rw [e]
    simp
theorem ok_event_text (S : Top K mg) : Has P w K mg base CX0 "event_text" 1 P_event_text (sp_event_text K) := by
  refine has_of (g_event_text S) (fn_event_text S) sc_event_text bi_event_text (fun vs H Q E h => ?_) (fun cdv A outer s H vs Q E hr h => ?_)
  · obtain ⟨a, p, f, e, rfl, _⟩ := h
    rfl
  · obtain ⟨a, p, f, e, rfl, hN, hE, hin, kk⟩ := h
    refine ⟨_, (pss_cons (ps_set (i := 2) sc_event_text.nd rfl (Or.inl rfl) (pe_f K (pv 1)))
      (pss_cons (ps_if (pt_cmpR op_eq (pv 2) (pe_gs (g_UNLOCK S) rfl) (nomark _))
      (pss_one (ps_ret (pv 2))) pss_nil)
      (pss_cons (ps_set (i := 3) sc_event_text.nd rfl (Or.inl rfl) (pe_jn K pe_str (pe_lc (own := [("officer", 4)]) rfl sc_event_text.nd (piL K (pe_f K (pv 1))) (blkOk_by (own := [("officer", 4)]) (N := N_event_text) (sc := defScope s_event_text) (by decide +kernel)) (fun _ _ _ _ _ => (pg_name (i := 4) sc_event_text.nd rfl (Or.inl rfl))) (fun _ _ _ _ _ => pts_nil) (fun _ _ _ _ _ => (pe_ix (ixL K) (pv 0) (pv 4) (fun _ _ => rfl))))))
      (pss_one (ps_ret (pe_joined (PJ.cons (pe_fmt (pv 2)) (PJ.cons pe_str (PJ.cons (pe_fmt (pv 3)) PJ.nil))))))))), ?_⟩
    obtain ⟨dx, l, h1, h2⟩ := id hE
    refine q_asg (ev_fld (ev_var rfl) h1 (cl_Event S) (na_Event_kind S) (event_kind _ _)) fun H1 e1 => ?_
    refine q_when (b := isK (Vbpxaf.W "open") e) (et_is (et_test (ev_op (ev_var rfl) (ev_is ev_c (congrArg V.str lit_open)) (rv_eq rfl))) (dec_st _ _)) (fun hb H2 e2 => ?_) fun hb H2 e2 => ?_
    · have hb' := of_decide_eq_true hb
      obtain ⟨c1, c2, c3, c4, c5, c6, c7, c8, c9, c10⟩ := kinds_ne
      cases e with
      | come => exact absurd hb' c4
      | go => exact absurd hb' c7
      | die => exact absurd hb' c9
      | stand => exact absurd hb' c10
      | open_ => exact s_ret (ev_var rfl) fun H3 e3 => kk H3 ((e1.trans e2).trans e3)
    · have hne : e ≠ .open_ := fun z => by
        subst z
        exact absurd rfl (of_decide_eq_false hb)
      have e12 := e1.trans e2
      have ho2 : (offs e).length ≤ 2 := by cases e <;> simp [offs]
      have hlen : ∀ x ∈ (offs e).map (nameOf f), x.length ≤ 12 := fun x hx => by
        obtain ⟨n, _, rfl⟩ := List.mem_map.mp hx
        exact nameOf_len hN.2 n
      have hsum : ((offs e).map fun n => (nameOf f n).length).sum ≤ 24 := by
        have b := fun n => nameOf_len hN.2 n
        cases e with
        | open_ => simp [offs]
        | come x => have := b x; simp [offs]; omega
        | go x => have := b x; simp [offs]; omega
        | die x => have := b x; simp [offs]; omega
        | stand x y => have := b x; have := b y; simp [offs]; omega
      refine q_asg (v := .str (st (VbpxCore.between [32, 102, 111, 114, 32] ((offs e).map (nameOf f))))) (ev_is (ev_join (s := [32, 102, 111, 114, 32]) (ls := (offs e).map (nameOf f)) (ev_is ev_c (by decide +kernel)) (el_is (el_lcL (fun _ => true) (fun i => V.str (st (nameOf f ((offs e).getD i 0)))) (ev_fld (ev_var rfl) (e12 _ _ h1) (cl_Event S) (na_Event_officers S) (event_offs _ _)) (sq_of (e12 _ _ h2)) (by rw [nats_len]; omega) (fun _ => rfl) (fun i x H1 e1 hi => et_yes) (fun i x H3 e3 hi _ => ?_)) ?_) ?_) ?_) fun H3 e3 => ?_
      · obtain ⟨n, hn, rfl⟩ := nats_at hi
        rw [getD_of hn]
        exact ev_name (hN.ex (e12.trans e3)) (hin n (List.mem_of_getElem? hn)) (ev_var rfl) (ev_var rfl)
      · rw [nats_len, given_all 0 (fun n => V.str (st (nameOf f n))), List.map_map]
        rfl
      · rw [List.map_map, List.length_map]
        have : ((offs e).map (List.length ∘ nameOf f)).sum ≤ 24 := hsum
        simp only [List.length_cons, List.length_nil]
        omega
      · rw [joinL_between]
      · have hbt := between_len (s := [32, 102, 111, 114, 32]) hlen
        rw [List.length_map] at hbt
        have hb2 : (offs e).length * (12 + [32, 102, 111, 114, 32].length) ≤ 34 := by
          simp only [List.length_cons, List.length_nil]
          omega
        have hk5 : (kindB e).length ≤ 5 := by cases e <;> (show List.length (Vbpxaf.W _) ≤ 5; decide +kernel)
        refine s_ret (ev_is (ev_js (zs := [kindB e, [32], VbpxCore.between [32, 102, 111, 114, 32] ((offs e).map (nameOf f))]) (.cons (ev_fmt (ev_var rfl) (by omega)) (.cons (ev_is ev_c (by decide +kernel)) (.cons (ev_fmt (ev_var rfl) (by omega)) .nil))) ?_) ?_) fun H4 e4 => kk H4 ((e12.trans e3).trans e4)
        · simp only [List.flatten_cons, List.flatten_nil, List.length_append, List.length_cons, List.length_nil]
          omega
        · rw [← ev_text_eq f e hne]
          simp
end
end CK
/-! record.py -/
namespace CK
open PySem PySem.Spec PyProof.Rows L2 Evl
open Vbpxaf (bit count opens File nameOf Now mayBe done acting may)
section
variable {P : Program} {w : World} {K : PySem.W.Frag} {mg : Str → Option Value} {base : Heap}
def nmRecord : List Str := ["names", "rule", "events"]
theorem recordF (x y z : V) : putF "events" z (putF "rule" y (putF "names" x [])) = nmRecord.zip [x, y, z] := by
  have e1 : putF "rule" y (putF "names" x []) = ([("names", x), ("rule", y)] : List (Str × V)) := (put_past (by decide +kernel)).trans rfl
  rw [e1]
  exact (put_past (by decide +kernel)).trans (congrArg _ ((put_past (by decide +kernel)).trans rfl))
theorem rec_names (x y z : V) : (nmRecord.zip [x, y, z]).lookup ("names" : Str) = some x := lk_here
theorem rec_rule (x y z : V) : (nmRecord.zip [x, y, z]).lookup ("rule" : Str) = some y := (lk_past (by decide +kernel)).trans lk_here
theorem rec_events (x y z : V) : (nmRecord.zip [x, y, z]).lookup ("events" : Str) = some z := (lk_past (by decide +kernel)).trans ((lk_past (by decide +kernel)).trans lk_here)
theorem rec_put1 (x y z v : V) : putF "names" v (nmRecord.zip [x, y, z]) = nmRecord.zip [v, y, z] := put_here
theorem rec_put2 (x y z v : V) : putF "rule" v (nmRecord.zip [x, y, z]) = nmRecord.zip [x, v, z] := (put_past (by decide +kernel)).trans (congrArg _ put_here)
theorem rec_put3 (x y z v : V) : putF "events" v (nmRecord.zip [x, y, z]) = nmRecord.zip [x, y, v] := (put_past (by decide +kernel)).trans (congrArg _ ((put_past (by decide +kernel)).trans (congrArg _ put_here)))
theorem rec_no (x y z : V) {m : Str} (h1 : (m == ("names" : Str)) = false) (h2 : (m == ("rule" : Str)) = false) (h3 : (m == ("events" : Str)) = false) : (nmRecord.zip [x, y, z]).lookup m = none := (lk_past h1).trans ((lk_past h2).trans ((lk_past h3).trans rfl))
theorem ok_Record (S : Top K mg) : HasC P w K mg base "Record" 1 P_Record_init (sp_rec K "Record" nmRecord) := by
  refine hasC_of (g_Record S) (mk_Record S) (fn_Record_init S) sc_Record_init bi_Record_init (fun vs H Q E h => ?_) (fun cdv A outer s H vs Q E hr h => ?_)
  · obtain ⟨p, dx, vals, rfl, hl, _⟩ := h
    show vals.length + 1 = 4
    rw [hl]
    rfl
  · obtain ⟨p, dx, vals, rfl, hl, hp, k⟩ := h
    obtain ⟨x, y, z, rfl⟩ : ∃ x y z, vals = [x, y, z] := by
      match vals, hl with
      | [x, y, z], _ => exact ⟨x, y, z, rfl⟩
    refine ⟨_, (pss_cons (ps_f K (pv 0) (pv 1))
      (pss_cons (ps_f K (pv 0) (pv 2))
      (pss_one (ps_f K (pv 0) (pv 3))))), ?_⟩
    refine ⟨_, rfl, _, rfl, p, _, dx, [], rfl, hp, cl_Record S, na_Record_names S, by simp, ?_⟩
    refine ⟨_, rfl, _, rfl, p, _, dx, _, rfl, upd_same, cl_Record S, na_Record_rule S, by simp [putF], ?_⟩
    refine ⟨_, rfl, _, rfl, p, _, dx, _, rfl, upd_same, cl_Record S, na_Record_events S, ?_, ?_⟩
    · have e1 : putF "rule" y (putF "names" x []) = ([("names", x), ("rule", y)] : List (Str × V)) := (put_past (by decide +kernel)).trans rfl
      rw [e1]
      simp
    · rw [upd_upd, upd_upd, recordF]
      exact k
/-- what a file's text may have told -/
structure FileOk (f : File) : Prop where
  names : Names f
  rule : RuleOk f f.rule
  size : rsz f.rule ≤ 1000000
  valid : Valid f f.events
  few : f.events.length ≤ 60
/-- the record's parts: the names' list nl, the rule ru, the events' list el -/
def PartsAt (K : PySem.W.Frag) (H : Hp) (nl ru el : Addr) (f : File) : Prop := NamesAt K H nl f ∧ RuleAt K H ru f f.rule ∧ EventsAt K H el f.events ∧ nl ≠ el
def RecordAt (K : PySem.W.Frag) (H : Hp) (r el : Addr) (f : File) : Prop := ∃ dx nl ru, H r = some (.ins (He.ga K "Record") dx (nmRecord.zip [.ref nl, .ref ru, .ref el])) ∧ PartsAt K H nl ru el f
theorem PartsAt.ex {H H' : Hp} {nl ru el : Addr} {f : File} (h : PartsAt K H nl ru el f) (e : Ex H H') : PartsAt K H' nl ru el f := ⟨h.1.ex e, RuleObj.ex h.2.1 e, h.2.2.1.ex e, h.2.2.2⟩
theorem RecordAt.ex {H H' : Hp} {r el : Addr} {f : File} (h : RecordAt K H r el f) (e : Ex H H') : RecordAt K H' r el f := by
  obtain ⟨dx, nl, ru, h1, h2⟩ := h
  exact ⟨dx, nl, ru, e _ _ h1, h2.ex e⟩
theorem ins_apart {H : Hp} {a b C C' dx dx' : Addr} {n n' : List Str} {x x' : List V} (h1 : H a = some (.ins C dx (n.zip x))) (h2 : H b = some (.ins C' dx' (n'.zip x'))) (hn : n ≠ n') (l1 : n.length ≤ x.length := by exact Nat.le_refl _) (l2 : n'.length ≤ x'.length := by exact Nat.le_refl _) : a ≠ b := fun z => by
  rw [z, h2] at h1
  have h3 := Option.some.inj h1
  injection h3 with _ _ h4
  have h5 := congrArg (fun l : List (Str × V) => l.map (·.1)) h4
  simp only [List.map_fst_zip l1, List.map_fst_zip l2] at h5
  exact hn h5.symm
theorem lst_apart {H : Hp} {a b C dx : Addr} {fs : List (Str × V)} {xs : List V} (h1 : H a = some (.lst xs)) (h2 : H b = some (.ins C dx fs)) : a ≠ b := fun z => by
  rw [z, h2] at h1
  cases h1
/-! ### the heap without some -/
def rm (H : Hp) (h l : Addr) : Hp := fun b => if b = h ∨ b = l then none else H b
theorem rm_of {H : Hp} {h l b : Addr} {o : HO} (h1 : b ≠ h) (h2 : b ≠ l) (hb : H b = some o) : rm H h l b = some o := by
  unfold rm
  rw [if_neg (fun z => z.elim h1 h2)]
  exact hb
theorem rm_at {H : Hp} {h l b : Addr} {o : HO} (hb : rm H h l b = some o) : b ≠ h ∧ b ≠ l ∧ H b = some o := by
  unfold rm at hb
  split at hb
  · cases hb
  · rename_i hn
    exact ⟨fun z => hn (.inl z), fun z => hn (.inr z), hb⟩
theorem rm_ex {H : Hp} {h l : Addr} : Ex (rm H h l) H := fun b o hb => (rm_at hb).2.2
theorem rm_mono {H H' : Hp} {h l : Addr} (e : Ex H H') : Ex (rm H h l) (rm H' h l) := fun b o hb => by
  obtain ⟨h1, h2, h3⟩ := rm_at hb
  exact rm_of h1 h2 (e _ _ h3)
theorem rm_monoB {H H' : Hp} {r h l : Addr} (e : ExB r H H') : ExB r (rm H h l) (rm H' h l) := fun b o n hb => by
  obtain ⟨h1, h2, h3⟩ := rm_at hb
  exact rm_of h1 h2 (e _ _ n h3)
def intsV (l : List Int) : List V := l.map V.int
theorem intsV_len (l : List Int) : (intsV l).length = l.length := by simp [intsV]
/-- a table is no list of whole numbers -/
theorem tab_off {H : Hp} {tb z : Addr} {n : Nat} {g : Nat → Bool} {zs : List Int} (h : Tab K H tb n g) (hz : H z = some (.lst (intsV zs))) : Tab K (rm H z z) tb n g := by
  refine ⟨h.1, ?_⟩
  rcases h.2 with (hT | ⟨o, hT⟩) | hT
  · refine sq_of ?_
    have ne : tb ≠ z := fun e => by
      rw [e, hz] at hT
      have h4 := Option.some.inj hT
      injection h4 with h5
      have h7 := congrArg List.length h5
      rw [tab_len, intsV_len] at h7
      have := Nat.two_pow_pos n
      unfold tab intsV at h5
      cases hh : List.range (2 ^ n) with
      | nil =>
        have := congrArg List.length hh
        rw [List.length_range] at this
        simp at this
      | cons c cs =>
        cases zs with
        | nil => simp at h7; omega
        | cons y ys =>
          rw [hh, List.map_cons, List.map_cons, List.cons.injEq] at h5
          cases h5.1
    exact rm_of ne ne hT
  · have ne : tb ≠ z := fun e => by
      rw [e, hz] at hT
      cases hT
    exact .inl (.inr ⟨o, rm_of ne ne hT⟩)
  · exact .inr hT
theorem RuleAt.off {H : Hp} {p z : Addr} {f : File} {rl : Vbpxaf.Rule} {zs : List Int} (h : RuleAt K H p f rl) (hz : H z = some (.lst (intsV zs))) : RuleAt K (rm H z z) p f rl := by
  obtain ⟨dr, tb, hru, hT⟩ := h
  have ne := Ne.symm (lst_apart hz hru)
  exact ⟨dr, tb, rm_of ne ne hru, tab_off hT hz⟩
def sp_new_record (K : PySem.W.Frag) : Sp := fun vs H Q _ => vs = [] ∧ ∀ r el H2, H r = none → H el = none → Ex H H2 → RecordAt K H2 r el Vbpxaf.start → (∀ z zs, H z = some (.lst (intsV zs)) → RecordAt K (rm H2 z z) r el Vbpxaf.start) → Q (.ref r) H2
theorem start_names : Names Vbpxaf.start := ⟨by decide, (fun x hx => by cases hx), List.nodup_nil⟩
theorem start_ok : FileOk Vbpxaf.start := ⟨start_names, trivial, by decide, (fun i e h => by cases h), by decide⟩
theorem ok_new_record (S : Top K mg) : Has P w K mg base CX0 "new_record" 4 P_new_record (sp_new_record K) := by
  refine has_of (g_new_record S) (fn_new_record S) sc_new_record bi_new_record (fun vs H Q E h => ?_) (fun cdv A outer s H vs Q E hr h => ?_)
  · obtain ⟨rfl, _⟩ := h
    rfl
  · obtain ⟨rfl, k⟩ := h
    refine ⟨_, (pss_one (ps_ret (pe_mkK K (ok_Record S) (hr.mono (by omega)) rfl (pa_cons (pe_lst pa_nil) (pa_cons (pe_h (ok_nobody_rule S) (hr.mono (by omega)) rfl (pa_cons pe_int pa_nil)) (pa_cons (pe_lst pa_nil) pa_nil)))))), ?_⟩
    refine ⟨by decide, fun nl hnl => ?_⟩
    have e1 : Ex H (upd H nl (.lst [])) := Ex.new hnl
    refine ⟨Vbpxaf.start, rfl, by decide, fun ru H2 hru e2 hR => ?_⟩
    refine ⟨by decide, fun el hel => ?_⟩
    have e3 : Ex H2 (upd H2 el (.lst [])) := Ex.new hel
    intro r dx hr' hdx ne
    refine ⟨r, dx, [.ref nl, .ref ru, .ref el], rfl, rfl, upd_same, rfl, ?_⟩
    have hnl2 : H2 nl = some (.lst []) := e2 _ _ upd_same
    have e4 : Ex (upd H2 el (.lst [])) (upd (upd (upd (upd H2 el (.lst [])) dx (.own r)) r (.ins (He.ga K "Record") dx [])) r (.ins (He.ga K "Record") dx (nmRecord.zip [.ref nl, .ref ru, .ref el]))) := fun b o hb => by
      rw [upd_ne (ne_of_none hb hr'), upd_ne (ne_of_none hb hr'), upd_ne (ne_of_none hb hdx)]
      exact hb
    have eH : Ex H (upd H2 el (.lst [])) := (e1.trans e2).trans e3
    have nle : nl ≠ el := fun z => by rw [← z, hnl2] at hel; cases hel
    have helH := fresh_back (e1.trans e2) hel
    refine k r el _ (fresh_back eH hr') helH (eH.trans e4) ⟨dx, nl, ru, upd_same, ⟨e4 _ _ (e3 _ _ hnl2), start_names⟩, RuleObj.ex hR (e3.trans e4), ⟨[], e4 _ _ upd_same, .nil⟩, nle⟩ fun z zs hz => ?_
    have n1 : nl ≠ z := fun y => by rw [y, hz] at hnl; cases hnl
    have n2 : el ≠ z := fun y => by rw [y, hz] at helH; cases helH
    have n3 : r ≠ z := fun y => by rw [y] at hr'; exact absurd hr' (by rw [eH _ _ hz]; simp)
    exact ⟨dx, nl, ru, rm_of n3 n3 upd_same, ⟨rm_of n1 n1 (e4 _ _ (e3 _ _ hnl2)), start_names⟩, RuleAt.off (RuleObj.ex hR (e3.trans e4)) ((eH.trans e4) _ _ hz), ⟨[], rm_of n2 n2 (e4 _ _ upd_same), .nil⟩, nle⟩
/-- a record's parts, now those of another one -/
theorem RecordAt.moved {G G' : Hp} {q r el nq rq dx dr dq : Addr} {x y u : V} {g : File} (hp : PartsAt K G nq rq el g) (hr : G r = some (.ins (He.ga K "Record") dr (nmRecord.zip [x, y, u]))) (e : ExB r G G')
    (hr' : G' r = some (.ins (He.ga K "Record") dx (nmRecord.zip [.ref nq, .ref rq, .ref el]))) : RecordAt K G' r el g := by
  obtain ⟨h1, ⟨d2, l2, h3, h4, h4'⟩, ⟨ps, h5, h6⟩, h7⟩ := hp
  refine ⟨dx, nq, rq, hr', ⟨e _ _ (lst_apart h1.1 hr) h1.1, h1.2⟩, ⟨d2, l2, e _ _ (ins_apart h3 hr (by decide +kernel)) h3, h4, ?_⟩, ⟨ps, e _ _ (lst_apart h5 hr) h5, L2.Paired.mapP h6 fun p ev z => ?_⟩, h7⟩
  · rcases h4' with (h | ⟨o, h⟩) | h
    · exact sq_of (e _ _ (lst_apart h hr) h)
    · refine .inl (.inr ⟨o, e _ _ (fun z => ?_) h⟩)
      rw [z, hr] at h
      cases h
    · exact .inr h
  · obtain ⟨d3, l3, h8, h9⟩ := z
    exact ⟨d3, l3, e _ _ (ins_apart h8 hr (by decide +kernel)) h8, e _ _ (lst_apart h9 hr) h9⟩
def sp_become (K : PySem.W.Frag) : Sp := fun vs H Q _ => ∃ (r q dr dq : Addr) (x y u a b c : V), vs = [.ref r, .ref q] ∧ H r = some (.ins (He.ga K "Record") dr (nmRecord.zip [x, y, u])) ∧ H q = some (.ins (He.ga K "Record") dq (nmRecord.zip [a, b, c])) ∧ r ≠ q ∧ ∀ H2, ExB r H H2 → H2 r = some (.ins (He.ga K "Record") dr (nmRecord.zip [a, b, c])) → Q .non H2
theorem ok_Record_become (S : Top K mg) : HasM P w K mg base CX0 "Record" "become" 1 P_Record_become (sp_become K) := by
  refine hasM_of (cl_Record S) (me_Record_become S) (fn_Record_become S) sc_Record_become bi_Record_become (fun vs H Q E h => ?_) (fun cdv A outer s H vs Q E hr h => ?_)
  · obtain ⟨r, q, dr, dq, x, y, u, a, b, c, rfl, _⟩ := h
    rfl
  · obtain ⟨r, q, dx, dq, x, y, u, a, b, c, rfl, h1, h2, ne, kk⟩ := h
    refine ⟨_, (pss_cons (ps_f K (pv 0) (pe_f K (pv 1)))
      (pss_cons (ps_f K (pv 0) (pe_f K (pv 1)))
      (pss_one (ps_f K (pv 0) (pe_f K (pv 1)))))), ?_⟩
    refine q_fld (ev_fld (ev_var rfl) h2 (cl_Record S) (na_Record_names S) (rec_names _ _ _)) (ev_var rfl) h1 (cl_Record S) (na_Record_names S) (by simp [nmRecord]) fun H1 e1 => ?_
    rw [rec_put1]
    have eb1 : ExB r H (upd H1 r (.ins (He.ga K "Record") dx (nmRecord.zip [a, y, u]))) := (Ex.b e1).trans ExB.upd
    refine q_fld (ev_fld (ev_var rfl) (eb1 _ _ (Ne.symm ne) h2) (cl_Record S) (na_Record_rule S) (rec_rule _ _ _)) (ev_var rfl) upd_same (cl_Record S) (na_Record_rule S) (by simp [nmRecord]) fun H2 e2 => ?_
    rw [rec_put2]
    have eb2 : ExB r H (upd H2 r (.ins (He.ga K "Record") dx (nmRecord.zip [a, b, u]))) := (eb1.trans (Ex.b e2)).trans ExB.upd
    refine s_fld (ev_fld (ev_var rfl) (eb2 _ _ (Ne.symm ne) h2) (cl_Record S) (na_Record_events S) (rec_events _ _ _)) (ev_var rfl) upd_same (cl_Record S) (na_Record_events S) (by simp [nmRecord]) fun H3 e3 => ?_
    rw [rec_put3]
    exact kk _ ((eb2.trans (Ex.b e3)).trans ExB.upd) upd_same
/-! ### the one text -/
def sp_one_text (K : PySem.W.Frag) : Sp := fun vs H Q _ => ∃ (r el : Addr) (f : File), vs = [.ref r] ∧ RecordAt K H r el f ∧ FileOk f ∧ RetV (.str (st (Vbpxaf.fileText f))) H Q
theorem valid_offs {f : File} {es : List Vbpxaf.Event} (h : Valid f es) {e : Vbpxaf.Event} (he : e ∈ es) : ∀ x ∈ offs e, x < count f := by
  obtain ⟨i, hi⟩ := List.mem_iff_getElem?.mp he
  exact offs_in (h i e hi)
theorem eventText_len {f : File} (hn : Names f) (e : Vbpxaf.Event) : (Vbpxaf.eventText f e).length ≤ 60 := by
  have b := fun n => nameOf_len hn n
  cases e with
  | open_ =>
    show (Vbpxaf.W "open").length ≤ 60
    decide +kernel
  | come x =>
    have := b x
    have e : Vbpxaf.eventText f (.come x) = Vbpxaf.W "come" ++ [32] ++ nameOf f x := rfl
    have e2 : (Vbpxaf.W "come").length = 4 := by decide +kernel
    rw [e]
    simp [e2]
    omega
  | go x =>
    have := b x
    have e : Vbpxaf.eventText f (.go x) = Vbpxaf.W "go" ++ [32] ++ nameOf f x := rfl
    have e2 : (Vbpxaf.W "go").length = 2 := by decide +kernel
    rw [e]
    simp [e2]
    omega
  | die x =>
    have := b x
    have e : Vbpxaf.eventText f (.die x) = Vbpxaf.W "die" ++ [32] ++ nameOf f x := rfl
    have e2 : (Vbpxaf.W "die").length = 3 := by decide +kernel
    rw [e]
    simp [e2]
    omega
  | stand x y =>
    have := b x
    have := b y
    have e : Vbpxaf.eventText f (.stand x y) = Vbpxaf.W "stand" ++ [32] ++ (nameOf f x ++ [32] ++ (Vbpxaf.W "for" ++ [32] ++ nameOf f y)) := rfl
    have e2 : (Vbpxaf.W "stand").length = 5 := by decide +kernel
    have e3 : (Vbpxaf.W "for").length = 3 := by decide +kernel
    rw [e]
    simp [e2, e3]
    omega
theorem sum_le {b : Nat} : ∀ {ls : List (List Nat)}, (∀ x ∈ ls, x.length ≤ b) → (ls.map List.length).sum ≤ b * ls.length
  | [], _ => by simp
  | x :: r, h => by
    have h1 := h x (by simp)
    have h2 := sum_le (b := b) (ls := r) fun y hy => h y (List.mem_cons_of_mem _ hy)
    simp only [List.map_cons, List.sum_cons, List.length_cons, Nat.mul_add, Nat.mul_one]
    omega
theorem name_len {f : File} (hn : Names f) {x : List Nat} (h : x ∈ f.officers) : x.length ≤ 12 := by
  have := hn.good x h
  unfold VbpxCore.isName at this
  simp only [Bool.and_eq_true, decide_eq_true_eq] at this
  exact this.2.1
/-- [..] + a list -/
theorem el_catL {σ : L2.St} {H : Hp} {ta tb : TE} {xs ys : List V} {a : Addr} (h1 : EvL ta σ H xs) (h2 : Ev tb σ H (.ref a)) (h3 : H a = some (.lst ys)) (hz : xs.length + ys.length ≤ 16777216) : EvL (tOp rCat ta tb) σ H (xs ++ ys) := fun H1 e1 Q q =>
  h1 H1 e1 _ fun p H2 hp e2 hx => h2 H2 (e1.trans e2) _ fun H3 e3 => ⟨p, a, xs, ys, rfl, rfl, e3 _ _ hx, ((e1.trans e2).trans e3) _ _ h3, by rw [sizeLine_eq]; exact hz, fun l hl => q l _ (fresh_back (e2.trans e3) hl) ((e2.trans e3).trans (Ex.new hl)) upd_same⟩
theorem rv_addS {H : Hp} {z : Str} {a b : List Nat} (hz : z = st a) (hl : a.length + b.length ≤ 16777216) : RV (fun x y H Q => ∃ i j : Str, x = .str i ∧ y = .str j ∧ i.length + j.length ≤ sizeLine ∧ Q (.str (i ++ j)) H) (.str z) (.str (st b)) H (.str (st (a ++ b))) := fun H1 e1 Q q => by
  subst hz
  refine ⟨st a, st b, rfl, rfl, by rw [st_len, st_len, sizeLine_eq]; exact hl, ?_⟩
  rw [st_app]
  exact q H1 (Ex.refl H1)
theorem ok_one_text (S : Top K mg) : Has P w K mg base CX0 "one_text" 2 P_one_text (sp_one_text K) := by
  refine has_of (g_one_text S) (fn_one_text S) sc_one_text bi_one_text (fun vs H Q E h => ?_) (fun cdv A outer s H vs Q E hr h => ?_)
  · obtain ⟨r, el, f, rfl, _⟩ := h
    rfl
  · obtain ⟨r, el, f, rfl, ⟨dx, nl, ru, h1, hN, ⟨d2, l2, h2, _⟩, ⟨ps, hel, hps⟩, _⟩, ok, kk⟩ := h
    refine ⟨_, (pss_cons (ps_set (i := 1) sc_one_text.nd rfl (Or.inl rfl) (pe_lst (pa_cons (pe_jn K pe_str (pe_op op_cat (pe_lst (pa_cons pe_str pa_nil)) (pe_f K (pv 0)))) (pa_cons (pe_op op_add_str pe_str (pe_f K (pe_f K (pv 0)))) pa_nil))))
      (pss_cons (ps_for PassesOwn.never rfl (piL K (pe_f K (pv 0))) (pg_name (i := 2) sc_one_text.nd rfl (Or.inl rfl))
      (pss_one (ps_expr (pe_bmK K PySem.F.plainAttrs_list PySem.F.slot_list_append PySem.F.type_list_append mt_append (pv 1) (pa_cons (pe_h (ok_event_text S) (hr.mono (by omega)) rfl (pa_cons (pe_f K (pv 0)) (pa_cons (pv 2) pa_nil))) pa_nil)))))
      (pss_one (ps_ret (pe_jn K pe_str (pv 1)))))), ?_⟩
    have few := hN.2.few
    have hoff : ∀ x ∈ Vbpxaf.W "officers" :: f.officers, x.length ≤ 12 := fun x hx => by
      rcases List.mem_cons.mp hx with rfl | hx
      · decide +kernel
      · exact name_len hN.2 hx
    have hb1 := between_len (s := [32]) hoff
    have hs1 := sum_le hoff
    have htx := Nat.le_trans (txt_len hN.2 ok.rule) ok.size
    let L1 : List (List Nat) := [VbpxCore.between [32] (Vbpxaf.W "officers" :: f.officers), Vbpxaf.W "rule" ++ [32] ++ txt f f.rule]
    refine q_asgL (xs := L1.map fun b => V.str (st b)) (el_lst (vs := L1.map fun b => V.str (st b)) (ea_cons (ev_is (ev_join (s := [32]) (ls := Vbpxaf.W "officers" :: f.officers) (ev_is ev_c (by decide +kernel)) (el_catL (el_lst (ea_cons (ev_is ev_c (by decide +kernel)) ea_nil) (by simp)) (ev_fld (ev_var rfl) h1 (cl_Record S) (na_Record_names S) (rec_names _ _ _)) hN.1 (by simp; omega)) ?_) ?_) (ea_cons (ev_is (ev_op ev_c (ev_fld (ev_fld (ev_var rfl) h1 (cl_Record S) (na_Record_rule S) (rec_rule _ _ _)) h2 (cl_Rule S) (na_Rule_text S) (rule_tx _ _ _)) (rv_addS (a := Vbpxaf.W "rule" ++ [32]) (b := txt f f.rule) (by decide +kernel) ?_)) ?_) ea_nil)) (by simp [L1])) fun l H1 hl e1 hl1 => ?_
    · simp only [List.length_cons, List.length_nil] at hs1 ⊢
      omega
    · rw [joinL_between]
    · have : (Vbpxaf.W "rule" ++ [32]).length = 5 := by decide +kernel
      omega
    · rfl
    let T (i : Nat) : List (List Nat) := L1 ++ (f.events.take i).map (Vbpxaf.eventText f)
    have lne : ∀ {q o}, H q = some o → q ≠ l := fun {q o} h z => by rw [z, hl] at h; cases h
    refine q_forLn (ev_fld (ev_var rfl) (e1 _ _ h1) (cl_Record S) (na_Record_events S) (rec_events _ _ _)) (sq_of (e1 _ _ hel)) (fun i σ' H' => ∃ v, σ' = [some (.ref r), some (.ref l), v] ∧ Ex H H' ∧ H' l = some (.lst ((T i).map fun b => V.str (st b)))) (fun H2 e2 => ⟨none, rfl, e1.trans e2, by rw [e2 _ _ hl1]; simp [T]⟩) (fun i σ' H' _ h => sq_of (h.choose_spec.2.1 _ _ hel)) ?_ ?_
    · rintro i x σ' H' hi ⟨v, rfl, e2, hl2⟩
      obtain ⟨p, e, rfl, he, hpe⟩ := event_at_get hps hi
      have hi' := (List.getElem?_eq_some_iff.mp he).1
      have hfe := ok.few
      refine s_app hl2 (ev_var rfl) (ev_h (ea_cons (ev_fld (ev_var rfl) (e2 _ _ h1) (cl_Record S) (na_Record_names S) (rec_names _ _ _)) (ea_cons (ev_var rfl) ea_nil)) fun H3 e3 Q E q => ⟨nl, p, f, e, rfl, hN.ex (e2.trans e3), hpe.ex (e2.trans e3), valid_offs ok.valid (List.mem_of_getElem? he), q⟩) (by simp [T, L1]; omega) fun H3 e3 => ?_
      refine ⟨_, rfl, Ex.mut (e2.trans e3) hl, ?_⟩
      rw [upd_same]
      have : T (i + 1) = T i ++ [Vbpxaf.eventText f e] := by
        show L1 ++ (f.events.take (i + 1)).map (Vbpxaf.eventText f) = _
        rw [List.take_succ, he, List.map_append, ← List.append_assoc]
        rfl
      rw [this]
      simp
    · rintro σ' H' ⟨v, rfl, e2, hl2⟩
      have hTe : T (ps.map V.ref).length = L1 ++ f.events.map (Vbpxaf.eventText f) := by
        show L1 ++ (f.events.take (ps.map V.ref).length).map (Vbpxaf.eventText f) = _
        rw [List.length_map, paired_len hps, List.take_length]
      rw [hTe] at hl2
      have hfe := ok.few
      have hs3 : ((f.events.map (Vbpxaf.eventText f)).map List.length).sum ≤ 60 * (f.events.map (Vbpxaf.eventText f)).length := sum_le fun x hx => by
        obtain ⟨e, _, rfl⟩ := List.mem_map.mp hx
        exact eventText_len hN.2 e
      refine s_ret (ev_is (ev_joinA (s := [10]) (ls := L1 ++ f.events.map (Vbpxaf.eventText f)) (ev_is ev_c (by decide +kernel)) (ev_var rfl) (sq_of hl2) ?_) ?_) fun H3 e3 => kk H3 (e2.trans e3)
      · have h5 : (Vbpxaf.W "rule").length = 4 := by decide +kernel
        simp only [List.length_map] at hs3
        simp only [L1, List.map_append, List.map_cons, List.map_nil, List.sum_append, List.sum_cons, List.sum_nil, List.length_append, List.length_cons, List.length_nil, List.length_map, h5]
        simp only [List.length_cons, List.length_nil] at hb1
        omega
      · rw [joinL_between]
        have e5 : txt f f.rule = VbpxCore.between [32] (Vbpxaf.ruleWords f f.rule) := rfl
        have e6 : VbpxCore.between [32] (Vbpxaf.W "rule" :: Vbpxaf.ruleWords f f.rule) = Vbpxaf.W "rule" ++ [32] ++ txt f f.rule := by rw [between_cons [32] _ (ruleWords_ne f f.rule), e5]
        unfold Vbpxaf.fileText
        rw [e6]
end
end CK
/-! weights.py -/
namespace CK
open PySem PySem.Spec PyProof.Rows L2 Evl
open Vbpxaf (bit members sized fact weigh)
section
variable {P : Program} {w : World} {K : PySem.W.Frag} {mg : Str → Option Value} {base : Heap}
/-! ### arguments that are new lists -/
theorem ev_hLL {sp : Sp} {σ : L2.St} {H : Hp} {E : XK} {ta tb : TE} {xs ys : List V} {z : V} (h1 : EvL ta σ H xs) (h2 : EvL tb σ H ys) (hs : ∀ p q H1, Ex H H1 → H1 p = some (.lst xs) → H1 q = some (.lst ys) → ∀ (Q : VK) (E : XK), RetV z H1 Q → sp [.ref p, .ref q] H1 Q E) : Ev (tCall sp [] E (tCons ta (tCons tb tNil))) σ H z := fun H1 e1 Q k =>
  h1 H1 e1 _ fun p H2 _ e2 hp => h2 H2 (e1.trans e2) _ fun q H3 _ e3 hq => hs p q H3 ((e1.trans e2).trans e3) (e3 _ _ hp) hq Q E fun H4 e4 => k H4 ((e2.trans e3).trans e4)
theorem intsV_nats (l : List Nat) : nats l = intsV (l.map fun (n : Nat) => (n : Int)) := by
  unfold nats intsV
  rw [List.map_map]
  rfl
theorem nats_getD {l : List Nat} {i : Nat} {x : V} (h : (nats l)[i]? = some x) : x = .int (l.getD i 0 : Nat) := by
  obtain ⟨c, hc, rfl⟩ := nats_at h
  rw [getD_of hc]
def sp_company_weight (K : PySem.W.Frag) : Sp := fun vs H Q _ => ∃ (a : Addr) (c : Nat) (ws : List Nat), vs = [.int c, .ref a] ∧ SqL K H a (nats ws) ∧ c < 64 ∧ ws.length ≤ 6 ∧ RetV (.int (weigh ws c : Nat)) H Q
theorem ok_company_weight (S : Top K mg) : Has P w K mg base CX0 "company_weight" 2 P_company_weight (sp_company_weight K) := by
  refine has_of (g_company_weight S) (fn_company_weight S) sc_company_weight bi_company_weight (fun vs H Q E h => ?_) (fun cdv A outer s H vs Q E hr h => ?_)
  · obtain ⟨a, c, ws, rfl, _⟩ := h
    rfl
  · obtain ⟨a, c, ws, rfl, hL, hc, hl, k⟩ := h
    refine ⟨_, (pss_one (ps_ret (pe_callB (cSum K) (by rfl) (n_sum S) boot_sum' (pa_cons (pe_lc (own := [("officer", 2), ("weight", 3)]) rfl sc_company_weight.nd (piE K (by rfl) (n_enumerate S) (pa_cons (pv 1) pa_nil)) (blkOk_by (own := [("officer", 2), ("weight", 3)]) (N := N_company_weight) (sc := defScope s_company_weight) (by decide +kernel)) (fun _ _ _ _ _ => (pgT K 2 (pgs_cons (pg_name (i := 2) sc_company_weight.nd rfl (Or.inl rfl)) (pgs_cons (pg_name (i := 3) sc_company_weight.nd rfl (Or.inl rfl)) pgs_nil)))) (fun _ _ _ _ _ => (pts_one (pt_val (pe_h (ok_has S) (hr.mono (by omega)) rfl (pa_cons (pv 0) (pa_cons (pv 2) pa_nil)))))) (fun _ _ _ _ _ => (pv 3))) pa_nil)))), ?_⟩
    refine s_ret (ev_is (ev_sumN (ns := ((List.range ws.length).filter (bit c)).map fun i => ((ws.getD i 0 : Nat) : Int)) (el_is (el_lcE (bit c) (fun i => V.int (ws.getD i 0 : Nat)) (ea_cons (ev_var rfl) ea_nil) hL (by rw [nats_len]; omega) (fun _ _ => rfl) (fun i x H1 e1 hi => ?_) (fun i x H1 e1 hi _ => ?_)) ?_)) ?_) k
    · have hlt := (List.getElem?_eq_some_iff.mp hi).1
      rw [nats_len] at hlt
      exact et_B (ev_has (ev_var rfl) (ev_var rfl) hc (by omega))
    · rw [nats_getD hi]
      exact ev_var rfl
    · rw [nats_len]
      unfold given
      rw [List.map_map]
      rfl
    · exact congrArg V.int (weigh_sum c ws)
theorem max_ex : ∀ ys : List Int, ∃ m : Int, (ys = [] → m = -1) ∧ (ys ≠ [] → m ∈ ys ∧ ∀ y ∈ ys, y ≤ m)
  | [] => ⟨-1, fun _ => rfl, fun h => absurd rfl h⟩
  | y :: l => by
    obtain ⟨m, h1, h2⟩ := max_ex l
    by_cases hl : l = []
    · subst hl
      exact ⟨y, fun h => (by cases h), fun _ => ⟨List.mem_cons_self .., fun z hz => by
        rcases List.mem_cons.mp hz with rfl | hz
        · exact Int.le_refl _
        · cases hz⟩⟩
    · obtain ⟨h3, h4⟩ := h2 hl
      by_cases hm : m ≤ y
      · exact ⟨y, fun h => (by cases h), fun _ => ⟨List.mem_cons_self .., fun z hz => by
          rcases List.mem_cons.mp hz with rfl | hz
          · exact Int.le_refl _
          · exact Int.le_trans (h4 z hz) hm⟩⟩
      · exact ⟨m, fun h => (by cases h), fun _ => ⟨List.mem_cons_of_mem _ h3, fun z hz => by
          rcases List.mem_cons.mp hz with rfl | hz
          · omega
          · exact h4 z hz⟩⟩
def moreB (xs ys : List Int) : Bool := xs.all fun x => ys.all fun y => decide (y < x)
theorem more_max {xs ys : List Int} {m : Int} (hx : ∀ x ∈ xs, 0 ≤ x) (h1 : ys = [] → m = -1) (h2 : ys ≠ [] → m ∈ ys ∧ ∀ y ∈ ys, y ≤ m) : (xs.map fun x => decide (m < x)).all id = moreB xs ys := by
  unfold moreB
  rw [List.all_map]
  rw [Bool.eq_iff_iff, List.all_eq_true, List.all_eq_true]
  refine forall_congr' fun x => forall_congr' fun hxs => ?_
  show decide (m < x) = true ↔ _
  rw [decide_eq_true_iff, List.all_eq_true]
  by_cases hy : ys = []
  · subst hy
    have := hx x hxs
    rw [h1 rfl]
    exact ⟨(fun _ y hy => absurd hy (by simp)), (fun _ => by omega)⟩
  · obtain ⟨h3, h4⟩ := h2 hy
    exact ⟨fun h y hy => decide_eq_true (Int.lt_of_le_of_lt (h4 y hy) h), fun h => of_decide_eq_true (h m h3)⟩
def sp_more (K : PySem.W.Frag) : Sp := fun vs H Q _ => ∃ (a b : Addr) (xs ys : List Int), vs = [.ref a, .ref b] ∧ SqL K H a (intsV xs) ∧ SqL K H b (intsV ys) ∧ xs.length ≤ 64 ∧ ys.length ≤ 64 ∧ (∀ x ∈ xs, 0 ≤ x) ∧ RetV (.bl (moreB xs ys)) H Q
theorem ok_all_weigh_more (S : Top K mg) : Has P w K mg base CX0 "all_weigh_more" 1 P_all_weigh_more (sp_more K) := by
  refine has_of (g_all_weigh_more S) (fn_all_weigh_more S) sc_all_weigh_more bi_all_weigh_more (fun vs H Q E h => ?_) (fun cdv A outer s H vs Q E hr h => ?_)
  · obtain ⟨a, b, xs, ys, rfl, _⟩ := h
    rfl
  · obtain ⟨a, b, xs, ys, rfl, hA, hB, ha, hb, h0, k⟩ := h
    refine ⟨_, (pss_cons (ps_set (i := 2) sc_all_weigh_more.nd rfl (Or.inr rfl) (pe_callBK (crMaxD K) (by rfl) (n_max S) boot_max' (pa_cons (pv 1) pa_nil) (pk_cons (pe_un un_neg pe_int) pk_nil)))
      (pss_one (ps_ret (pe_callB (cAll K) (by rfl) (n_all S) boot_all' (pa_cons (pe_lc (own := [("one", 3)]) rfl sc_all_weigh_more.nd (piL K (pv 0)) (blkOk_by (own := [("one", 3)]) (N := N_all_weigh_more) (sc := defScope s_all_weigh_more) (by decide +kernel)) (fun _ _ _ _ _ => (pg_name (i := 3) sc_all_weigh_more.nd rfl (Or.inl rfl))) (fun _ _ _ _ _ => pts_nil) (fun _ _ _ _ _ => (pe_cmpR op_gt (pv 3) (pv 2) (nomark _)))) pa_nil))))), ?_⟩
    obtain ⟨m, h1, h2⟩ := max_ex ys
    refine q_asg (v := .int m) (ev_maxD (d := -1) (ev_var rfl) hB (ev_un ev_c ru_neg) (fun z => (h1 z).symm) fun x hx hy => ?_) fun H1 e1 => ?_
    · obtain ⟨h3, h4⟩ := h2 (fun z => by rw [z] at hx; cases hx)
      exact Int.le_antisymm (h4 x hx) (hy m h3)
    · refine s_ret (ev_is (ev_allN (bs := xs.map fun x => decide (m < x)) (el_is (el_lcL (fun _ => true) (fun i => V.bl (decide (m < xs.getD i 0))) (ev_var rfl) (ex_l e1 hA) (by rw [intsV_len]; omega) (fun _ => rfl) (fun i x H2 e2 hi => et_yes) (fun i x H2 e2 hi _ => ?_)) ?_)) (congrArg V.bl (more_max h0 h1 h2))) fun H2 e2 => k H2 (e1.trans e2)
      · obtain ⟨n, hn, rfl⟩ : ∃ n, xs[i]? = some n ∧ x = .int n := by
          unfold intsV at hi
          rw [List.getElem?_map] at hi
          obtain ⟨n, hn, rfl⟩ := Option.map_eq_some_iff.mp hi
          exact ⟨n, hn, rfl⟩
        rw [getD_of hn]
        exact ev_op (ev_var rfl) (ev_var rfl) rv_I0
      · rw [intsV_len, given_all 0 (fun x => V.bl (decide (m < x))), List.map_map]
        rfl
/-- weights of a list of companies -/
theorem el_weights {σ : L2.St} {H : Hp} {E : XK} {a b : Addr} {j i o : Nat} {vs : List Nat} {ws cs : List Nat} (hj : σ[j]? = some (some (.ref b))) (ho : ∀ x, ((wipe σ vs).set i (some x))[o]? = some (some (.ref a))) (hi : ∀ x, ((wipe σ vs).set i (some x))[i]? = some (some x)) (hw : ∀ x, wipe ((wipe σ vs).set i (some x)) vs = wipe σ vs) (hA : SqL K H a (nats ws)) (hB : SqL K H b (nats cs)) (hl : ws.length ≤ 6) (hz : cs.length ≤ 64) (h64 : ∀ c ∈ cs, c < 64) :
    EvL (tLc (iList K (tVar j)) (gName i) tYes (tCall (sp_company_weight K) [] E (tCons (tVar i) (tCons (tVar o) tNil))) vs) σ H (nats (cs.map (weigh ws))) := by
  refine el_is (el_lcL (fun _ => true) (fun k => V.int (weigh ws (cs.getD k 0) : Nat)) (ev_var hj) hB (by rw [nats_len]; omega) hw (fun k x H2 e2 hk => et_yes) (fun k x H2 e2 hk _ => ?_)) ?_
  · obtain ⟨c, hc, rfl⟩ := nats_at hk
    rw [getD_of hc]
    exact ev_h (ea_cons (ev_var (hi _)) (ea_cons (ev_var (ho _)) ea_nil)) fun H3 e3 Q E q => ⟨a, c, ws, rfl, ex_l (e2.trans e3) hA, h64 c (List.mem_of_getElem? hc), hl, q⟩
  · rw [nats_len, given_all 0 (fun c => V.int (weigh ws c : Nat))]
    unfold nats
    rw [List.map_map]
    rfl
theorem moreB_nats (xs ys : List Nat) : moreB (xs.map fun (n : Nat) => (n : Int)) (ys.map fun (n : Nat) => (n : Int)) = xs.all fun x => ys.all fun y => decide (y < x) := by
  unfold moreB
  rw [List.all_map]
  congr 1
  funext x
  show (ys.map fun (n : Nat) => (n : Int)).all _ = _
  rw [List.all_map]
  congr 1
  funext y
  exact decide_eq_decide.mpr (by show ((y : Int) < (x : Int)) ↔ _; omega)
theorem partsL_more (ls fs ws : List Nat) : ((ls.map (weigh ws)).all fun x => (fs.map (weigh ws)).all fun y => decide (y < x)) = partsL ls fs ws := by
  unfold partsL
  rw [List.all_map]
  congr 1
  funext a
  show (fs.map (weigh ws)).all _ = _
  rw [List.all_map]
  rfl
def sp_tell (K : PySem.W.Frag) : Sp := fun vs H Q _ => ∃ (a b c : Addr) (ws ls fs : List Nat), vs = [.ref a, .ref b, .ref c] ∧ SqL K H a (nats ws) ∧ SqL K H b (nats ls) ∧ SqL K H c (nats fs) ∧ ws.length ≤ 6 ∧ ls.length ≤ 64 ∧ fs.length ≤ 64 ∧ (∀ c ∈ ls, c < 64) ∧ (∀ c ∈ fs, c < 64) ∧ RetV (.bl (partsL ls fs ws)) H Q
theorem nn_map (l : List Nat) : ∀ x ∈ l.map (fun (n : Nat) => (n : Int)), 0 ≤ x := fun x hx => by
  obtain ⟨n, _, rfl⟩ := List.mem_map.mp hx
  omega
theorem ok_tell_rule (S : Top K mg) : Has P w K mg base CX0 "tell_rule" 3 P_tell_rule (sp_tell K) := by
  refine has_of (g_tell_rule S) (fn_tell_rule S) sc_tell_rule bi_tell_rule (fun vs H Q E h => ?_) (fun cdv A outer s H vs Q E hr h => ?_)
  · obtain ⟨a, b, c, ws, ls, fs, rfl, _⟩ := h
    rfl
  · obtain ⟨a, b, c, ws, ls, fs, rfl, hA, hB, hC, l1, l2, l3, h1, h2, k⟩ := h
    refine ⟨_, (pss_one (ps_ret (pe_h (ok_all_weigh_more S) (hr.mono (by omega)) rfl (pa_cons (pe_lc (own := [("company", 3)]) rfl sc_tell_rule.nd (piL K (pv 1)) (blkOk_by (own := [("company", 3)]) (N := N_tell_rule) (sc := defScope s_tell_rule) (by decide +kernel)) (fun _ _ _ _ _ => (pg_name (i := 3) sc_tell_rule.nd rfl (Or.inl rfl))) (fun _ _ _ _ _ => pts_nil) (fun _ _ _ _ _ => (pe_h (ok_company_weight S) (hr.mono (by omega)) rfl (pa_cons (pv 3) (pa_cons (pv 0) pa_nil))))) (pa_cons (pe_lc (own := [("company", 3)]) rfl sc_tell_rule.nd (piL K (pv 2)) (blkOk_by (own := [("company", 3)]) (N := N_tell_rule) (sc := defScope s_tell_rule) (by decide +kernel)) (fun _ _ _ _ _ => (pg_name (i := 3) sc_tell_rule.nd rfl (Or.inl rfl))) (fun _ _ _ _ _ => pts_nil) (fun _ _ _ _ _ => (pe_h (ok_company_weight S) (hr.mono (by omega)) rfl (pa_cons (pv 3) (pa_cons (pv 0) pa_nil))))) pa_nil))))), ?_⟩
    rw [← partsL_more, ← moreB_nats] at k
    refine s_ret (ev_hLL (el_weights rfl (fun _ => rfl) (fun _ => rfl) (fun _ => rfl) hA hB l1 l2 h1) (el_weights rfl (fun _ => rfl) (fun _ => rfl) (fun _ => rfl) hA hC l1 l3 h2) fun p q H1 e1 hp hq Q E kk => ?_) k
    rw [intsV_nats] at hp hq
    exact ⟨p, q, _, _, rfl, sq_of hp, sq_of hq, by simpa using l2, by simpa using l3, nn_map _, kk⟩
def quotaL (ws ls : List Nat) : Nat := match ls with
  | [] => ws.sum + 1
  | c :: l => (l.map (weigh ws)).foldl min (weigh ws c)
def sp_quota (K : PySem.W.Frag) : Sp := fun vs H Q _ => ∃ (a b : Addr) (ws ls : List Nat), vs = [.ref a, .ref b] ∧ SqL K H a (nats ws) ∧ SqL K H b (nats ls) ∧ ws.length ≤ 6 ∧ ls.length ≤ 64 ∧ (∀ c ∈ ls, c < 64) ∧ RetV (.int (quotaL ws ls : Nat)) H Q
theorem sum_cast (l : List Nat) : (l.map fun (n : Nat) => (n : Int)).sum = ((l.sum : Nat) : Int) := by
  induction l with
  | nil => rfl
  | cons a l ih =>
    rw [List.map_cons, List.sum_cons, List.sum_cons, ih, Int.natCast_add]
theorem ok_quota_of (S : Top K mg) : Has P w K mg base CX0 "quota_of" 3 P_quota_of (sp_quota K) := by
  refine has_of (g_quota_of S) (fn_quota_of S) sc_quota_of bi_quota_of (fun vs H Q E h => ?_) (fun cdv A outer s H vs Q E hr h => ?_)
  · obtain ⟨a, b, ws, ls, rfl, _⟩ := h
    rfl
  · obtain ⟨a, b, ws, ls, rfl, hA, hB, l1, l2, h1, k⟩ := h
    refine ⟨_, (pss_one (ps_ret (pe_callBK (crMinD K) (by rfl) (n_min S) boot_min' (pa_cons (pe_lc (own := [("company", 2)]) rfl sc_quota_of.nd (piL K (pv 1)) (blkOk_by (own := [("company", 2)]) (N := N_quota_of) (sc := defScope s_quota_of) (by decide +kernel)) (fun _ _ _ _ _ => (pg_name (i := 2) sc_quota_of.nd rfl (Or.inl rfl))) (fun _ _ _ _ _ => pts_nil) (fun _ _ _ _ _ => (pe_h (ok_company_weight S) (hr.mono (by omega)) rfl (pa_cons (pv 2) (pa_cons (pv 0) pa_nil))))) pa_nil) (pk_cons (pe_op op_add (pe_callB (cSum K) (by rfl) (n_sum S) boot_sum' (pa_cons (pv 0) pa_nil)) pe_int) pk_nil)))), ?_⟩
    have hA' : SqL K H a (intsV (ws.map fun (n : Nat) => (n : Int))) := by rw [← intsV_nats]; exact hA
    refine s_ret (ev_minD (ns := (ls.map (weigh ws)).map fun (n : Nat) => (n : Int)) (d := ((ws.sum : Nat) : Int) + 1) (el_is (el_weights rfl (fun _ => rfl) (fun _ => rfl) (fun _ => rfl) hA hB l1 l2 h1) (intsV_nats _)) (ev_op (ev_is (ev_sum (ev_var rfl) hA') (congrArg V.int (sum_cast ws))) ev_c rv_I0) (fun z => ?_) fun x hx hy => ?_) k
    · have : ls = [] := by simpa using z
      subst this
      rfl
    · obtain ⟨n, hn, rfl⟩ := List.mem_map.mp hx
      cases ls with
      | nil => cases hn
      | cons c l =>
        rw [min_is (l := l.map (weigh ws)) (a := weigh ws c) (m := n) hn fun y hy' => ?_]
        · rfl
        · have := hy (y : Int) (List.mem_map.mpr ⟨y, hy', rfl⟩)
          omega
def sp_moved (K : PySem.W.Frag) : Sp := fun vs H Q _ => ∃ (a b : Addr) (cs : List Nat) (g : Nat → Int) (o : Nat) (st : Int), vs = [.ref a, .ref b, .int o, .int st] ∧ SqL K H a (nats cs) ∧ SqL K H b (intsV (cs.map g)) ∧ cs.length ≤ 64 ∧ o < 6 ∧ (∀ c ∈ cs, c < 64) ∧ RetL (intsV (cs.map fun c => if bit c o = true then g c + st else g c)) H Q
theorem ok_moved (S : Top K mg) : Has P w K mg base CX0 "moved" 2 P_moved (sp_moved K) := by
  refine has_of (g_moved S) (fn_moved S) sc_moved bi_moved (fun vs H Q E h => ?_) (fun cdv A outer s H vs Q E hr h => ?_)
  · obtain ⟨a, b, cs, g, o, st, rfl, _⟩ := h
    rfl
  · obtain ⟨a, b, cs, g, o, st, rfl, hA, hB, hl, ho, h64, k⟩ := h
    refine ⟨_, (pss_one (ps_ret (pe_lc (own := [("company", 4), ("number", 5)]) rfl sc_moved.nd (piZ K (by rfl) (n_zip S) (pa_cons (pv 0) (pa_cons (pv 1) pa_nil))) (blkOk_by (own := [("company", 4), ("number", 5)]) (N := N_moved) (sc := defScope s_moved) (by decide +kernel)) (fun _ _ _ _ _ => (pgT K 2 (pgs_cons (pg_name (i := 4) sc_moved.nd rfl (Or.inl rfl)) (pgs_cons (pg_name (i := 5) sc_moved.nd rfl (Or.inl rfl)) pgs_nil)))) (fun _ _ _ _ _ => pts_nil) (fun _ _ _ _ _ => (pe_ifExp (pt_val (pe_h (ok_has S) (hr.mono (by omega)) rfl (pa_cons (pv 4) (pa_cons (pv 2) pa_nil)))) (pe_op op_add (pv 5) (pv 3)) (pv 5)))))), ?_⟩
    refine s_retL (el_is (el_lcZ (fun i => V.int (if bit (cs.getD i 0) o = true then g (cs.getD i 0) + st else g (cs.getD i 0))) (ea_cons (ev_var rfl) (ea_cons (ev_var rfl) ea_nil)) hA hB (by rw [nats_len, intsV_len, List.length_map]) (by rw [nats_len]; omega) (fun _ _ => rfl) (fun i x y H1 e1 hx hy => ?_)) ?_) k
    · obtain ⟨c, hc, rfl⟩ := nats_at hx
      have hy' : y = .int (g c) := by
        unfold intsV at hy
        rw [List.getElem?_map, List.getElem?_map, hc] at hy
        exact (Option.some.inj hy).symm
      subst hy'
      rw [getD_of hc]
      refine ev_if (b := bit c o) (et_B (ev_has (ev_var rfl) (ev_var rfl) (h64 c (List.mem_of_getElem? hc)) ho)) (fun hb => ?_) fun hb => ?_
      · rw [if_pos hb]
        exact ev_op (ev_var rfl) (ev_var rfl) rv_I0
      · rw [if_neg (by rw [hb]; simp)]
        exact ev_var rfl
    · rw [nats_len, given_all 0 (fun c => V.int (if bit c o = true then g c + st else g c))]
      unfold intsV
      rw [List.map_map]
      rfl
end
end CK
/-! reading.py: names, officers, those behind "of" -/
namespace CK
open PySem PySem.Spec PyProof.Rows L2 Evl
open Vbpxaf (bit count opens File nameOf Now mayBe done acting may W RESERVED)
open VbpxCore (isName isLetter)
section
variable {P : Program} {w : World} {K : PySem.W.Frag} {mg : Str → Option Value} {base : Heap}
/-! ### what the reader does, in short -/
section
variable {σ : L2.St} {H : Hp} {r : Addr} {ws : List (Nat × List Nat)} {i j : Nat} {wd : Nat × List Nat} {D : Ends} {tz : TS} {E : XK} {Wx : WX}
theorem ev_shown (hR : ReaderAt K H r ws i) (hw : ws[i]? = some wd) (h : σ[j]? = some (some (.ref r))) : Ev (tMeth (He.ga K "Reader") "shown" (sp_shown K) [] E (tVar j) tNil) σ H (.str (st (spl wd.2))) := fun H1 e1 Q q => by
  obtain ⟨dx, l, h1, h2⟩ := id hR
  exact ⟨_, h, r, dx, _, rfl, e1 _ _ h1, reader_no _ _ (by decide +kernel) (by decide +kernel), r, ws, i, wd, rfl, hR.ex e1, hw, q⟩
theorem s_goon (hR : ReaderAt K H r ws i) (h : σ[j]? = some (some (.ref r))) (k : ∀ H2, ExB r H H2 → ReaderAt K H2 r ws (i + 1) → D.nx σ H2) : tDrop (tMeth (He.ga K "Reader") "go_on" (sp_go_on K) [] E (tVar j) tNil) D σ H := by
  obtain ⟨dx, l, h1, h2⟩ := id hR
  exact ⟨_, h, r, dx, _, rfl, h1, reader_no _ _ (by decide +kernel) (by decide +kernel), r, ws, i, rfl, hR, k⟩
theorem q_goon (hR : ReaderAt K H r ws i) (h : σ[j]? = some (some (.ref r))) (k : ∀ H2, ExB r H H2 → ReaderAt K H2 r ws (i + 1) → tz D σ H2) : tSeq (tDrop (tMeth (He.ga K "Reader") "go_on" (sp_go_on K) [] E (tVar j) tNil)) tz D σ H := s_goon (D := { D with nx := tz D }) hR h k
theorem s_refuse (hR : ReaderAt K H r ws i) (hw : ws[i]? = some wd) (h : σ[j]? = some (some (.ref r))) (k : RaisedB K r wd.1 H (WE Wx σ)) : tDrop (tMethX (He.ga K "Reader") "refuse" (sp_refuse K) Wx (tVar j) tNil) D σ H := by
  obtain ⟨dx, l, h1, h2⟩ := id hR
  exact ⟨_, h, r, dx, _, rfl, h1, reader_no _ _ (by decide +kernel) (by decide +kernel), r, ws, i, wd, rfl, hR, hw, k⟩
theorem s_expect {z : Str} {b : List Nat} (hz : z = st b) (hR : ReaderAt K H r ws i) (hw : ws[i]? = some wd) (h : σ[j]? = some (some (.ref r))) (k1 : spl wd.2 = b → ∀ H2, ExB r H H2 → ReaderAt K H2 r ws (i + 1) → D.nx σ H2) (k2 : spl wd.2 ≠ b → RaisedB K r wd.1 H (WE Wx σ)) :
    tDrop (tMethX (He.ga K "Reader") "expect" (sp_expect K) Wx (tVar j) (tCons (tC (.str z)) tNil)) D σ H := by
  obtain ⟨dx, l, h1, h2⟩ := id hR
  subst hz
  exact ⟨_, h, r, dx, _, rfl, h1, reader_no _ _ (by decide +kernel) (by decide +kernel), r, ws, i, wd, b, rfl, hR, hw, k1, k2⟩
theorem q_expect {z : Str} {b : List Nat} (hz : z = st b) (hR : ReaderAt K H r ws i) (hw : ws[i]? = some wd) (h : σ[j]? = some (some (.ref r))) (k1 : spl wd.2 = b → ∀ H2, ExB r H H2 → ReaderAt K H2 r ws (i + 1) → tz D σ H2) (k2 : spl wd.2 ≠ b → RaisedB K r wd.1 H (WE Wx σ)) :
    tSeq (tDrop (tMethX (He.ga K "Reader") "expect" (sp_expect K) Wx (tVar j) (tCons (tC (.str z)) tNil))) tz D σ H := s_expect (D := { D with nx := tz D }) hz hR hw h k1 k2
end
/-- the words of a text with the end's own -/
def wsOf (t : List Nat) : List (Nat × List Nat) := VbpxCore.cut 0 t ++ [(t.length, [])]
/-- what is left of the words: none, and the end's word stands there; or the next one -/
theorem ws_cases {t : List Nat} {i : Nat} (hi : i ≤ (VbpxCore.cut 0 t).length) : ((VbpxCore.cut 0 t).drop i = [] ∧ (wsOf t)[i]? = some (t.length, []) ∧ i = (VbpxCore.cut 0 t).length) ∨
    ∃ wd, (VbpxCore.cut 0 t).drop i = wd :: (VbpxCore.cut 0 t).drop (i + 1) ∧ (wsOf t)[i]? = some wd ∧ i < (VbpxCore.cut 0 t).length := by
  rcases Nat.lt_or_ge i (VbpxCore.cut 0 t).length with h | h
  · right
    refine ⟨(VbpxCore.cut 0 t)[i], ?_, ?_, h⟩
    · rw [List.getElem_cons_drop]
    · unfold wsOf
      rw [List.getElem?_append_left h, List.getElem?_eq_getElem h]
  · left
    have e : i = (VbpxCore.cut 0 t).length := by omega
    subst e
    refine ⟨List.drop_length, ?_, rfl⟩
    unfold wsOf
    rw [List.getElem?_append_right (Nat.le_refl _), Nat.sub_self]
    rfl
/-! ### a name -/
theorem eq_str (a b : List Nat) : eqV (.str (st a)) (.str (st b)) = (a == b) := by
  show (st a == st b) = (a == b)
  rw [Bool.eq_iff_iff, beq_iff_eq, beq_iff_eq]
  exact ⟨st_inj, fun h => by rw [h]⟩
theorem inV_nms (z : List Nat) (l : List (List Nat)) : inV (.str (st z)) (nmsV l) = l.contains z := by
  unfold inV nmsV
  rw [List.any_map, List.contains_eq_any_beq]
  congr 1
  funext b
  show eqV (.str (st b)) (.str (st z)) = (z == b)
  rw [eq_str, Bool.eq_iff_iff, beq_iff_eq, beq_iff_eq]
  exact ⟨fun h => h.symm, fun h => h.symm⟩
theorem nms_flat (l : List (List Nat)) : (nmsV l).all flatV = true := by
  unfold nmsV
  rw [List.all_map, List.all_eq_true]
  intro x _
  rfl
theorem no_names : t_NO_NAMES.map (He.Dv.v K) = nmsV RESERVED := by
  show [V.str "and", V.str "or", V.str "of", V.str "anybody", V.str "nobody"] = [V.str (st (W "and")), V.str (st (W "or")), V.str (st (W "of")), V.str (st (W "anybody")), V.str (st (W "nobody"))]
  have h : ("and" : Str) = st (W "and") ∧ ("or" : Str) = st (W "or") ∧ ("of" : Str) = st (W "of") ∧ ("anybody" : Str) = st (W "anybody") ∧ ("nobody" : Str) = st (W "nobody") := by decide +kernel
  rw [← h.1, ← h.2.1, ← h.2.2.1, ← h.2.2.2.1, ← h.2.2.2.2]
theorem in_letters (c : Nat) : decide (c ∈ ("abcdefghijklmnopqrstuvwxyz" : Str).cps.toList) = isLetter c := by
  rw [row_letters]
  unfold isLetter
  rw [Bool.eq_iff_iff]
  simp [rowOf, st]
  constructor
  · rintro ⟨a, ha, rfl⟩
    omega
  · rintro ⟨h1, h2⟩
    exact ⟨c - 97, by omega, by omega⟩
/-- a comprehension over a text's signs -/
theorem el_lcS {σ : L2.St} {H : Hp} {tl te : TE} {j : Nat} {vs : List Nat} {z : List Nat} (v : Nat → V) (h : Ev tl σ H (.str (st z))) (hz : z.length ≤ 40000) (hw : ∀ x, wipe ((wipe σ vs).set j (some x)) vs = wipe σ vs)
    (he : ∀ (i c : Nat) H1, Ex H H1 → z[i]? = some c → Ev te ((wipe σ vs).set j (some (.str ⟨#[c]⟩))) H1 (v i)) : EvL (tLc (iStr tl) (gName j) tYes te vs) σ H (given z.length (fun _ => true) v) := fun H0 e Q q => h H0 e _ fun H1 e1 => by
  refine ⟨st z, rfl, fun Dl hD => ?_⟩
  have hsz : (st z).cps.size = z.length := by simp [st]
  have hwk := walk_str (z := st z)
  rw [hsz] at hwk
  refine lc_it hwk (Cw H1 (fun _ => true) v Dl) ⟨hD, Ex.new hD, upd_same⟩ (fun _ _ _ _ => trivial) (fun k x H' H'' hk p y => ?_) fun H' p => q Dl H' (fresh_back e1 p.1) (e1.trans p.2.1) p.2.2
  obtain ⟨rfl, c, hc, rfl⟩ := y
  have hc' : z[k]? = some c := by simpa [st] using hc
  exact ⟨hw _, cw_turn (f := fun _ => true) p (by omega) et_yes fun _ => he k c H1 (e.trans e1) hc'⟩
def isNm (z : List Nat) : Bool := !RESERVED.contains z && isName z
def sp_is_name (K : PySem.W.Frag) : Sp := fun vs H Q _ => ∃ z : List Nat, vs = [.str (st z)] ∧ z.length ≤ 2000 ∧ RetV (.bl (isNm z)) H Q
theorem given_map {α : Type} (d : α) (g : α → V) (l : List α) : given l.length (fun _ => true) (fun i => g (l.getD i d)) = l.map g := given_all d g l
theorem ok_is_name (S : Top K mg) : Has P w K mg base CX0 "is_name" 1 P_is_name (sp_is_name K) := by
  refine has_of (g_is_name S) (fn_is_name S) sc_is_name bi_is_name (fun vs H Q E h => ?_) (fun cdv A outer s H vs Q E hr h => ?_)
  · obtain ⟨z, rfl, _⟩ := h
    rfl
  · obtain ⟨z, rfl, hz, k⟩ := h
    refine ⟨_, (pss_cons (ps_if (PW.pt (pw_or (pt_cmpR (inS K) (pv 0) (pe_gr (g_NO_NAMES S) rfl) (by rfl)) (pw_or1 (pt_not (pt_chain op_le op_le pe_int (pe_callB call_len_str (by rfl) (n_len S) PySem.boot_len (pa_cons (pv 0) pa_nil)) (pe_gi (g_MOST_LETTERS S) rfl))))))
      (pss_one (ps_ret pe_bl)) pss_nil)
      (pss_one (ps_ret (pe_callB (cAll K) (by rfl) (n_all S) boot_all' (pa_cons (pe_lc (own := [("sign", 1)]) rfl sc_is_name.nd (pi_str (pv 0)) (blkOk_by (own := [("sign", 1)]) (N := N_is_name) (sc := defScope s_is_name) (by decide +kernel)) (fun _ _ _ _ _ => (pg_name (i := 1) sc_is_name.nd rfl (Or.inl rfl))) (fun _ _ _ _ _ => pts_nil) (fun _ _ _ _ _ => (pe_cmpR op_in_sign (pv 1) (pe_gs (g_LETTERS S) rfl) (by rfl)))) pa_nil))))), ?_⟩
    have htu : SqT K H (He.ga K "NO_NAMES") (nmsV RESERVED) := by rw [← no_names (K := K)]; exact tu_NO_NAMES S H
    refine q_when (b := RESERVED.contains z || !(decide (1 ≤ z.length) && decide (z.length ≤ 12))) (et_or (et_is (et_test (ev_op (ev_var rfl) ev_c (rv_isT htu rfl (nms_flat _)))) (inV_nms _ _)) fun _ => et_not (et_is (et_test (ev_chain ev_c (ev_lenS (ev_var rfl) (by rw [st_len]; omega)) rv_I0 (fun _ => ev_c) fun _ => rv_I0)) ?_)) (fun hb H1 e1 => ?_) fun hb H1 e1 => ?_
    · rw [st_len]
      congr 1 <;> exact decide_eq_decide.mpr (by omega)
    · have e : isNm z = false := by
        unfold isNm VbpxCore.isName
        rcases Bool.or_eq_true_iff.mp hb with h1 | h1
        · rw [h1]
          rfl
        · rw [Bool.not_eq_true'] at h1
          rw [← Bool.and_assoc (decide (1 ≤ z.length)), h1]
          simp
      rw [e] at k
      exact s_ret ev_c fun H2 e2 => k H2 (e1.trans e2)
    · obtain ⟨h1, h2⟩ := Bool.or_eq_false_iff.mp hb
      have h3 : (decide (1 ≤ z.length) && decide (z.length ≤ 12)) = true := by simpa using h2
      have e : isNm z = z.all isLetter := by
        unfold isNm VbpxCore.isName
        rw [h1, ← Bool.and_assoc (decide (1 ≤ z.length)), h3]
        rfl
      rw [e] at k
      refine s_ret (ev_is (ev_allN (bs := z.map isLetter) (el_is (el_lcS (fun i => V.bl (isLetter (z.getD i 0))) (ev_var rfl) (by omega) (fun _ => rfl) (fun i c H2 e2 hc => ?_)) ?_)) ?_) fun H2 e2 => k H2 (e1.trans e2)
      · rw [getD_of hc, ← in_letters c]
        exact ev_op (ev_var rfl) ev_c fun H3 e3 Q q => ⟨c, _, rfl, rfl, q H3 (Ex.refl H3)⟩
      · rw [given_all 0 (fun c => V.bl (isLetter c)), List.map_map]
        rfl
      · rw [List.all_map]
        rfl
def canTell (z : List Nat) (l : List (List Nat)) : Bool := decide (l.length < 6) && (isNm z && !l.contains z)
def sp_can_be_told (K : PySem.W.Frag) : Sp := fun vs H Q _ => ∃ (z : List Nat) (a : Addr) (l : List (List Nat)), vs = [.str (st z), .ref a] ∧ H a = some (.lst (nmsV l)) ∧ z.length ≤ 2000 ∧ RetV (.bl (canTell z l)) H Q
theorem ok_can_be_told (S : Top K mg) : Has P w K mg base CX0 "can_be_told" 2 P_can_be_told (sp_can_be_told K) := by
  refine has_of (g_can_be_told S) (fn_can_be_told S) sc_can_be_told bi_can_be_told (fun vs H Q E h => ?_) (fun cdv A outer s H vs Q E hr h => ?_)
  · obtain ⟨z, a, l, rfl, _⟩ := h
    rfl
  · obtain ⟨z, a, l, rfl, ha, hz, k⟩ := h
    refine ⟨_, (pss_one (ps_ret (pe_and (pe_cmpR op_lt (pe_callB (cLen K) (by rfl) (n_len S) PySem.boot_len (pa_cons (pv 1) pa_nil)) (pe_gi (g_MOST_OFFICERS S) rfl) (nomark _)) (pe_and (pe_h (ok_is_name S) (hr.mono (by omega)) rfl (pa_cons (pv 0) pa_nil)) (pe_one (pe_cmpR (niS K) (pv 0) (pv 1) (by rfl))))))), ?_⟩
    refine s_ret (ev_is (ev_andV (ev_op (ev_len (ev_var rfl) (sq_of ha)) ev_c rv_I0) fun _ => ev_andV (ev_h (ea_cons (ev_var rfl) ea_nil) fun H1 e1 Q E q => ⟨z, rfl, hz, q⟩) fun _ => ev_op (ev_var rfl) (ev_var rfl) (rv_niL (sq_of ha) rfl (nms_flat _))) ?_) k
    rw [nmsV_len, inV_nms]
    unfold canTell
    congr 2
    exact decide_eq_decide.mpr (by omega)
/-! ### the names -/
theorem isNm_spl (w : List Nat) : isNm (spl w) = isNm w := by
  unfold isNm VbpxCore.isName
  rw [spl_letters, spl_length]
  congr 2
  rw [Bool.eq_iff_iff, List.contains_iff_mem, List.contains_iff_mem]
  have h : ∀ k ∈ RESERVED, (spl w = k ↔ w = k) := fun k hk => spl_iff (by
    revert k
    decide +kernel)
  constructor
  · intro hm
    have := (h _ hm).mp rfl
    rw [this]
    exact hm
  · intro hm
    rw [(h _ hm).mpr rfl]
    exact hm
theorem isNm_letters {w : List Nat} (h : isNm w = true) : w.all isLetter = true := by
  unfold isNm VbpxCore.isName at h
  simp only [Bool.and_eq_true] at h
  exact h.2.2.2
theorem letters_spl {x w : List Nat} (hx : x.all isLetter = true) : (spl w = x ↔ w = x) := spl_iff (letters_sg hx)
theorem contains_spl {l : List (List Nat)} (hl : ∀ x ∈ l, x.all isLetter = true) (w : List Nat) : l.contains (spl w) = l.contains w := by
  rw [Bool.eq_iff_iff, List.contains_iff_mem, List.contains_iff_mem]
  constructor
  · intro hm
    have := (letters_spl (hl _ hm)).mp rfl
    rw [this]
    exact hm
  · intro hm
    rw [(letters_spl (hl _ hm)).mpr rfl]
    exact hm
theorem word_len {t : List Nat} : ∀ {p : Nat} {wd : Nat × List Nat}, wd ∈ VbpxCore.cut p t → wd.2.length ≤ t.length ∨ wd.2 = [10] := by
  induction t with
  | nil =>
    intro p wd h
    left
    have : wd = (p, []) := by simpa [VbpxCore.cut] using h
    rw [this]
    simp
  | cons c r ih =>
    intro p wd h
    unfold VbpxCore.cut at h
    split at h
    · rcases List.mem_cons.mp h with rfl | h
      · left; simp
      · rcases ih h with h | h
        · left; simp; omega
        · right; exact h
    · split at h
      · rcases List.mem_cons.mp h with rfl | h
        · left; simp
        · rcases List.mem_cons.mp h with rfl | h
          · right; rfl
          · rcases ih h with h | h
            · left; simp; omega
            · right; exact h
      · split at h
        · left
          have : wd = (p, [c]) := by simpa using h
          rw [this]
          simp
        · rename_i q w0 l e
          rcases List.mem_cons.mp h with rfl | h
          · have := ih (p := p + 1) (wd := (q, w0)) (by rw [e]; exact List.mem_cons_self)
            rcases this with h1 | h1
            · left
              simp only [List.length_cons]
              show w0.length + 1 ≤ r.length + 1
              have : w0.length ≤ r.length := h1
              omega
            · -- a line's end is never the first word
              exfalso
              have h2 : w0 = [10] := h1
              subst h2
              clear h1 ih
              cases r with
              | nil =>
                simp [VbpxCore.cut] at e
              | cons d r =>
                unfold VbpxCore.cut at e
                split at e
                · simp at e
                · split at e
                  · simp at e
                  · rename_i n32 n10
                    split at e
                    · simp at e
                      exact n10 e.1.2
                    · simp at e
                      exact n10 e.1.2.1
          · rcases ih (p := p + 1) (wd := wd) (by rw [e]; exact List.mem_cons_of_mem _ h) with h | h
            · left; simp; omega
            · right; exact h
theorem ws_len {t : List Nat} (ht : t.length ≤ 2000) {i : Nat} {wd : Nat × List Nat} (h : (wsOf t)[i]? = some wd) : wd.2.length ≤ 2000 := by
  have hm := List.mem_of_getElem? h
  unfold wsOf at hm
  rcases List.mem_append.mp hm with hm | hm
  · rcases word_len hm with h1 | h1
    · omega
    · rw [h1]; simp
  · have : wd = (t.length, []) := by simpa using hm
    rw [this]; simp
end
end CK
/-! reading.py: officers -/
namespace CK
open PySem PySem.Spec PyProof.Rows L2 Evl
open Vbpxaf (bit count opens File nameOf Now mayBe done acting may W RESERVED officersIn officerIn listIn)
open VbpxCore (isName isLetter cut)
section
variable {P : Program} {w : World} {K : PySem.W.Frag} {mg : Str → Option Value} {base : Heap}
structure Good (l : List (List Nat)) : Prop where
  few : l.length ≤ 6
  nm : ∀ x ∈ l, isNm x = true
  nodup : l.Nodup
theorem Good.letters {l : List (List Nat)} (h : Good l) : ∀ x ∈ l, x.all isLetter = true := fun x hx => isNm_letters (h.nm x hx)
theorem isNm_nil : isNm [] = false := by decide +kernel
theorem canTell_spl {l : List (List Nat)} (hl : Good l) (w : List Nat) : canTell (spl w) l = canTell w l := by
  unfold canTell
  rw [isNm_spl, contains_spl hl.letters]
theorem line_no : isNm [10] = false := by decide +kernel
theorem officers_turn {e g : Nat} {l : List (List Nat)} {wd : Nat × List Nat} {rest : List (Nat × List Nat)} (h : isNm wd.2 = true) (hn : l.contains wd.2 = false) : officersIn e (g + 1) l (wd :: rest) = officersIn e g (l ++ [wd.2]) rest := by
  have ne : wd.2 ≠ [10] := fun z => by rw [z, line_no] at h; cases h
  have h1 : Vbpxaf.ends (wd :: rest) = false := by
    unfold Vbpxaf.ends VbpxCore.ahead
    simp [ne]
  unfold isNm at h
  rw [Bool.and_eq_true, Bool.not_eq_true'] at h
  have h2 : Vbpxaf.nameIn e (l ++ RESERVED) (wd :: rest) = .ok (wd.2, rest) := by
    refine if_pos ⟨h.2, ?_⟩
    have h3 := h.1
    rw [← Bool.not_eq_true] at hn h3 ⊢
    rw [List.contains_iff_mem] at hn h3 ⊢
    intro hm
    rcases List.mem_append.mp hm with hm | hm
    · exact hn hm
    · exact h3 hm
  conv => lhs; unfold Vbpxaf.officersIn
  rw [h1, h2]
  rfl
def sp_read_names (K : PySem.W.Frag) : Sp := fun vs H Q _ => ∃ (r : Addr) (t : List Nat) (i : Nat), vs = [.ref r] ∧ ReaderAt K H r (wsOf t) i ∧ t.length ≤ 2000 ∧ i ≤ (cut 0 t).length ∧
  ∀ p H2 l j, H p = none → ExB r H H2 → H2 p = some (.lst (nmsV l)) → ReaderAt K H2 r (wsOf t) j → i ≤ j → j ≤ (cut 0 t).length → Good l → officersIn t.length 6 [] ((cut 0 t).drop i) = officersIn t.length (6 - l.length) l ((cut 0 t).drop j) →
    (∀ wd, (wsOf t)[j]? = some wd → canTell wd.2 l = false) → Q (.ref p) H2
theorem ok_read_names (S : Top K mg) : Has P w K mg base CX0 "read_names" 3 P_read_names (sp_read_names K) := by
  refine has_of (g_read_names S) (fn_read_names S) sc_read_names bi_read_names (fun vs H Q E h => ?_) (fun cdv A outer s H vs Q E hr h => ?_)
  · obtain ⟨r, t, i, rfl, _⟩ := h
    rfl
  · obtain ⟨r, t, i, rfl, hR, ht, hi, kk⟩ := h
    refine ⟨_, (pss_cons (ps_set (i := 1) sc_read_names.nd rfl (Or.inl rfl) (pe_lst pa_nil))
      (pss_cons (ps_while PassesOwn.never (pt_val (pe_h (ok_can_be_told S) (hr.mono (by omega)) rfl (pa_cons (pe_m0 K (pv 0) (ok_Reader_shown S) (hr.mono (by omega))) (pa_cons (pv 1) pa_nil))))
      (pss_cons (ps_expr (pe_bmK K PySem.F.plainAttrs_list PySem.F.slot_list_append PySem.F.type_list_append mt_append (pv 1) (pa_cons (pe_m0 K (pv 0) (ok_Reader_shown S) (hr.mono (by omega))) pa_nil)))
      (pss_one (ps_expr (pe_m0 K (pv 0) (ok_Reader_go_on S) (hr.mono (by omega)))))))
      (pss_one (ps_ret (pv 1))))), ?_⟩
    refine q_asgL (el_lst ea_nil (by simp)) fun p H1 hp e1 h1 => ?_
    have rne : r ≠ p := fun z => by
      have := hR.there
      rw [z] at this
      exact this hp
    refine q_while (fun m σ' H' => ∃ l j, σ' = [some (.ref r), some (.ref p)] ∧ m = (cut 0 t).length - j ∧ ExB r H H' ∧ H' p = some (.lst (nmsV l)) ∧ ReaderAt K H' r (wsOf t) j ∧ i ≤ j ∧ j ≤ (cut 0 t).length ∧ Good l ∧ officersIn t.length 6 [] ((cut 0 t).drop i) = officersIn t.length (6 - l.length) l ((cut 0 t).drop j)) ((cut 0 t).length - i)
      ⟨[], i, rfl, rfl, Ex.b e1, h1, hR.ex e1, Nat.le_refl _, hi, ⟨by simp, (fun x hx => by cases hx), List.nodup_nil⟩, rfl⟩ ?_
    rintro m σ' H' ⟨l, j, rfl, rfl, eb, hl, hR', hij, hj, hg, hoff⟩
    obtain ⟨wd, hwd⟩ : ∃ wd, (wsOf t)[j]? = some wd := by
      rcases ws_cases hj with ⟨_, h, _⟩ | ⟨wd, _, h, _⟩
      · exact ⟨_, h⟩
      · exact ⟨_, h⟩
    have hwl := ws_len ht hwd
    refine ⟨canTell wd.2 l, et_B (ev_is (ev_h (ea_cons (ev_shown hR' hwd rfl) (ea_cons (ev_var rfl) ea_nil)) fun H2 e2 Q E q => ⟨spl wd.2, p, l, rfl, e2 _ _ hl, by rw [spl_length]; exact hwl, q⟩) (by rw [canTell_spl hg])), fun hb H2 e2 => ?_, fun hb H2 e2 => ?_⟩
    · have hb2 := hb
      unfold canTell at hb2
      simp only [Bool.and_eq_true, decide_eq_true_eq, Bool.not_eq_true'] at hb2
      obtain ⟨h6, hnm, hnc⟩ := hb2
      obtain ⟨hdrop, hjlt⟩ : (cut 0 t).drop j = wd :: (cut 0 t).drop (j + 1) ∧ j < (cut 0 t).length := by
        rcases ws_cases hj with ⟨_, h, _⟩ | ⟨wd', h1, h, h2⟩
        · rw [hwd] at h
          cases h
          rw [isNm_nil] at hnm
          cases hnm
        · rw [hwd] at h
          cases h
          exact ⟨h1, h2⟩
      have hsp : spl wd.2 = wd.2 := (letters_spl (isNm_letters hnm)).mpr rfl
      refine ⟨fun σ2 H3 => ∃ l2, l2 = l ++ [wd.2] ∧ σ2 = [some (.ref r), some (.ref p)] ∧ ExB r H H3 ∧ H3 p = some (.lst (nmsV l2)) ∧ ReaderAt K H3 r (wsOf t) (j + 1), ?_, ?_⟩
      · rintro σ2 H3 ⟨l2, rfl, rfl, eb3, hl3, hR3⟩
        refine ⟨(cut 0 t).length - (j + 1), by omega, l ++ [wd.2], j + 1, rfl, rfl, eb3, hl3, hR3, by omega, hjlt, ⟨by simp; omega, fun x hx => ?_, ?_⟩, ?_⟩
        · rcases List.mem_append.mp hx with hx | hx
          · exact hg.nm x hx
          · have : x = wd.2 := by simpa using hx
            rw [this]
            exact hnm
        · rw [List.nodup_append]
          refine ⟨hg.nodup, by simp, fun a ha b hb => ?_⟩
          have : b = wd.2 := by simpa using hb
          rw [this]
          intro z
          rw [← z] at hnc
          have := List.contains_iff_mem.mpr ha
          rw [hnc] at this
          cases this
        · rw [hoff, hdrop]
          have : 6 - l.length = (6 - (l ++ [wd.2]).length) + 1 := by simp; omega
          rw [this, officers_turn hnm hnc]
      · refine q_app (e2 _ _ hl) (ev_var rfl) (ev_shown (hR'.ex e2) hwd rfl) (by rw [nmsV_len]; have := hg.few; omega) fun H3 e3 => ?_
        have hR3 : ReaderAt K (upd H3 p (.lst (nmsV l ++ [.str (st (spl wd.2))]))) r (wsOf t) j := by
          obtain ⟨dx, wl, h3, ps, h4, h5⟩ := hR'.ex (e2.trans e3)
          have hl3 := (e2.trans e3) _ _ hl
          have wne : wl ≠ p := fun z => by
            rw [z, hl3] at h4
            have h6 := Option.some.inj h4
            injection h6 with h7
            cases l with
            | nil =>
              have h8 : ps = [] := by
                cases ps with
                | nil => rfl
                | cons a b => simp [nmsV] at h7
              rw [h8] at h5
              have := paired_len h5
              unfold wsOf at this
              simp at this
            | cons a b =>
              cases ps with
              | nil => simp [nmsV] at h7
              | cons c d => simp [nmsV] at h7
          refine ⟨dx, wl, by rw [upd_ne rne]; exact h3, ps, by rw [upd_ne wne]; exact h4, L2.Paired.mapP h5 fun q x z => ?_⟩
          obtain ⟨d, hd⟩ := z
          have qne : q ≠ p := fun z => by rw [z, hl3] at hd; cases hd
          exact ⟨d, by rw [upd_ne qne]; exact hd⟩
        refine s_goon hR3 rfl fun H4 e4 hR4 => ⟨l ++ [wd.2], rfl, rfl, fun b o n hb => ?_, ?_, hR4⟩
        · refine e4 b o n ?_
          have bne : b ≠ p := fun z => by rw [z, hp] at hb; cases hb
          rw [upd_ne bne]
          exact (e2.trans e3) _ _ (eb b o n hb)
        · rw [e4 _ _ (Ne.symm rne) upd_same, hsp]
          simp [nmsV]
    · refine s_ret (ev_var rfl) fun H3 e3 => kk p H3 l j hp (fun b o n hb => (e2.trans e3) _ _ (eb b o n hb)) ((e2.trans e3) _ _ hl) (hR'.ex (e2.trans e3)) hij hj hg hoff fun wd' hw' => ?_
      rw [hwd] at hw'
      cases hw'
      exact hb
/-! ### an officer -/
theorem Names.letters {f : File} (h : Names f) : ∀ x ∈ f.officers, x.all isLetter = true := fun x hx => by
  have := h.good x hx
  unfold VbpxCore.isName at this
  simp only [Bool.and_eq_true] at this
  exact this.2.2
theorem find_none {l : List (List Nat)} {x : List Nat} (h : l.contains x = false) : l.findIdx? (fun y => y == x) = none := by
  rw [List.findIdx?_eq_none_iff]
  intro y hy
  cases hb : (y == x) with
  | false => rfl
  | true =>
    have e := beq_iff_eq.mp hb
    rw [← e] at h
    have := List.contains_iff_mem.mpr hy
    rw [h] at this
    cases this
theorem find_some {l : List (List Nat)} {x : List Nat} (h : l.contains x = true) : ∃ n, l.findIdx? (fun y => y == x) = some n ∧ l[n]? = some x ∧ ∀ m, m < n → l[m]? ≠ some x := by
  have hm := List.contains_iff_mem.mp h
  cases e : l.findIdx? (fun y => y == x) with
  | none =>
    rw [List.findIdx?_eq_none_iff] at e
    have := e x hm
    simp at this
  | some n =>
    rw [List.findIdx?_eq_some_iff_getElem] at e
    obtain ⟨h1, h2, h3⟩ := e
    refine ⟨n, rfl, ?_, fun m hmn z => ?_⟩
    · rw [List.getElem?_eq_getElem h1]
      exact congrArg some (beq_iff_eq.mp h2)
    · have h4 := h3 m hmn
      obtain ⟨h5, h6⟩ := List.getElem?_eq_some_iff.mp z
      rw [h6] at h4
      simp at h4
/-- what officerIn says where the word stands -/
def sp_shown_officer (K : PySem.W.Frag) : Sp := fun vs H Q E => ∃ (r a : Addr) (t : List Nat) (i : Nat) (f : File), vs = [.ref r, .ref a] ∧ ReaderAt K H r (wsOf t) i ∧ t.length ≤ 2000 ∧ i ≤ (cut 0 t).length ∧ NamesAt K H a f ∧
  (∀ n, officerIn f t.length ((cut 0 t).drop i) = .error n → RaisedB K r n H E) ∧
  (∀ n rest, officerIn f t.length ((cut 0 t).drop i) = .ok (n, rest) → i < (cut 0 t).length → rest = (cut 0 t).drop (i + 1) → n < count f → RetV (.int (n : Int)) H Q)
theorem nil_contains {f : File} (h : Names f) : f.officers.contains [] = false := by
  cases hb : f.officers.contains [] with
  | false => rfl
  | true =>
    have := h.good [] (List.contains_iff_mem.mp hb)
    exact absurd this (by decide)
/-- the next word among the officers, as the specification has it -/
theorem officer_cases {t : List Nat} {i : Nat} {f : File} (hi : i ≤ (cut 0 t).length) (hn : Names f) : ∃ wd, (wsOf t)[i]? = some wd ∧
    ((f.officers.contains wd.2 = false ∧ officerIn f t.length ((cut 0 t).drop i) = .error wd.1) ∨
      ∃ n, f.officers.contains wd.2 = true ∧ officerIn f t.length ((cut 0 t).drop i) = .ok (n, (cut 0 t).drop (i + 1)) ∧ i < (cut 0 t).length ∧ f.officers[n]? = some wd.2 ∧ (∀ m, m < n → f.officers[m]? ≠ some wd.2) ∧ n < count f) := by
  rcases ws_cases hi with ⟨h1, h2, _⟩ | ⟨wd, h1, h2, h3⟩
  · refine ⟨_, h2, .inl ⟨nil_contains hn, ?_⟩⟩
    rw [h1]
    rfl
  · refine ⟨wd, h2, ?_⟩
    rw [h1]
    cases hb : f.officers.contains wd.2 with
    | false =>
      refine .inl ⟨rfl, ?_⟩
      show (match f.officers.findIdx? fun x => x == wd.2 with
        | some n => Except.ok (n, (cut 0 t).drop (i + 1))
        | none => .error wd.1) = _
      rw [find_none hb]
    | true =>
      obtain ⟨n, e1, e2, e3⟩ := find_some hb
      refine .inr ⟨n, rfl, ?_, h3, e2, e3, (List.getElem?_eq_some_iff.mp e2).1⟩
      show (match f.officers.findIdx? fun x => x == wd.2 with
        | some n => Except.ok (n, (cut 0 t).drop (i + 1))
        | none => .error wd.1) = _
      rw [e1]
theorem ok_shown_officer (S : Top K mg) : Has P w K mg base (L2.CX P w) "shown_officer" 5 P_shown_officer (sp_shown_officer K) := by
  refine has_ofX (g_shown_officer S) (fn_shown_officer S) sc_shown_officer bi_shown_officer (fun vs H Q E h => ?_) (fun cdv A outer s H vs Q E hr h => ?_)
  · obtain ⟨r, a, t, i, f, rfl, _⟩ := h
    rfl
  · obtain ⟨r, a, t, i, f, rfl, hR, ht, hi, hN, k1, k2⟩ := h
    refine ⟨_, (pss_cons (ps_if (pt_cmpR (niS K) (pe_m0 K (pv 0) (ok_Reader_shown S) (hr.mono (by omega))) (pv 1) (by rfl))
      (pss_one (ps_expr (pe_mS0 K (pv 0) (ok_Reader_refuse S) (hr.mono (by omega)) (takes_of rfl rfl rfl rfl)))) pss_nil)
      (pss_one (ps_ret (pe_bmK K PySem.F.plainAttrs_list PySem.F.slot_list_index PySem.F.type_list_index (mtIndex K) (pv 1) (pa_cons (pe_m0 K (pv 0) (ok_Reader_shown S) (hr.mono (by omega))) pa_nil))))), ?_⟩
    obtain ⟨wd, hw, hc⟩ := officer_cases hi hN.2
    have hcs := contains_spl hN.2.letters wd.2
    refine q_when (b := !f.officers.contains wd.2) (et_is (et_test (ev_op (ev_shown hR hw rfl) (ev_var rfl) (rv_niL (sq_of hN.1) rfl (nms_flat _)))) (by rw [inV_nms, hcs])) (fun hb H1 e1 => ?_) fun hb H1 e1 => ?_
    · have hb' : f.officers.contains wd.2 = false := by simpa using hb
      rcases hc with ⟨_, h2⟩ | ⟨n, h1, _⟩
      · exact s_refuse (hR.ex e1) hw rfl ((k1 _ h2).mono (Ex.b e1) hR.there (hR.ex e1).there)
      · rw [hb'] at h1
        cases h1
    · have hb' : f.officers.contains wd.2 = true := by simpa using hb
      rcases hc with ⟨h1, _⟩ | ⟨n, _, h2, h3, h4, h5, h6⟩
      · rw [hb'] at h1
        cases h1
      · have hsp : spl wd.2 = wd.2 := (letters_spl (hN.2.letters _ (List.mem_of_getElem? h4))).mpr rfl
        have hN1 := hN.ex e1
        refine s_ret (v := .int (n : Int)) (fun H2 e2 Q2 q2 => ?_) fun H2 e2 => k2 n _ h2 h3 rfl h6 H2 (e1.trans e2)
        have hN2 := hN1.ex e2
        refine ⟨_, rfl, .inl ⟨rfl, _, sq_of hN2.1⟩, ev_shown ((hR.ex e1).ex e2) hw rfl H2 (Ex.refl H2) _ fun H3 e3 => ?_⟩
        refine ⟨a, nmsV f.officers, .str (st (spl wd.2)), n, .str (st wd.2), rfl, rfl, sq_of (e3 _ _ hN2.1), rfl, nms_flat _, ?_, ?_, fun m z' hm hz' => ?_, q2 H3 e3⟩
        · unfold nmsV
          rw [List.getElem?_map, h4]
          rfl
        · rw [eq_str, hsp]
          exact beq_self_eq_true _
        · unfold nmsV at hz'
          rw [List.getElem?_map] at hz'
          obtain ⟨x, hx, rfl⟩ := Option.map_eq_some_iff.mp hz'
          rw [eq_str, hsp]
          cases hbx : (x == wd.2) with
          | false => rfl
          | true =>
            rw [beq_iff_eq.mp hbx] at hx
            exact absurd hx (h5 m hm)
def sp_read_officer (K : PySem.W.Frag) : Sp := fun vs H Q E => ∃ (r a : Addr) (t : List Nat) (i : Nat) (f : File), vs = [.ref r, .ref a] ∧ ReaderAt K H r (wsOf t) i ∧ t.length ≤ 2000 ∧ i ≤ (cut 0 t).length ∧ NamesAt K H a f ∧
  (∀ n, officerIn f t.length ((cut 0 t).drop i) = .error n → RaisedB K r n H E) ∧
  (∀ n rest, officerIn f t.length ((cut 0 t).drop i) = .ok (n, rest) → i < (cut 0 t).length → rest = (cut 0 t).drop (i + 1) → n < count f → ∀ H2, ExB r H H2 → ReaderAt K H2 r (wsOf t) (i + 1) → Q (.int (n : Int)) H2)
/-- shown_officer(..) within a def that may raise -/
theorem c_shown {σ : L2.St} {H : Hp} {j m : Nat} {r a : Addr} {t : List Nat} {i : Nat} {f : File} {Q : VK} {Wx : WX} (h1 : σ[j]? = some (some (.ref r))) (h2 : σ[m]? = some (some (.ref a))) (hR : ReaderAt K H r (wsOf t) i) (ht : t.length ≤ 2000) (hi : i ≤ (cut 0 t).length) (hN : NamesAt K H a f)
    (k1 : ∀ n, officerIn f t.length ((cut 0 t).drop i) = .error n → RaisedB K r n H (WE Wx σ)) (k2 : ∀ n, officerIn f t.length ((cut 0 t).drop i) = .ok (n, (cut 0 t).drop (i + 1)) → i < (cut 0 t).length → n < count f → RetV (.int (n : Int)) H Q) :
    tCallS (sp_shown_officer K) (WE Wx) (tCons (tVar j) (tCons (tVar m) tNil)) σ H Q :=
  ⟨_, h1, _, h2, r, a, t, i, f, rfl, hR, ht, hi, hN, k1, fun n rest e1 e2 e3 e4 => by subst e3; exact k2 n e1 e2 e4⟩
theorem c_read {σ : L2.St} {H : Hp} {j m : Nat} {r a : Addr} {t : List Nat} {i : Nat} {f : File} {Q : VK} {Wx : WX} (h1 : σ[j]? = some (some (.ref r))) (h2 : σ[m]? = some (some (.ref a))) (hR : ReaderAt K H r (wsOf t) i) (ht : t.length ≤ 2000) (hi : i ≤ (cut 0 t).length) (hN : NamesAt K H a f)
    (k1 : ∀ n, officerIn f t.length ((cut 0 t).drop i) = .error n → RaisedB K r n H (WE Wx σ)) (k2 : ∀ n, officerIn f t.length ((cut 0 t).drop i) = .ok (n, (cut 0 t).drop (i + 1)) → i < (cut 0 t).length → n < count f → ∀ H2, ExB r H H2 → ReaderAt K H2 r (wsOf t) (i + 1) → Q (.int (n : Int)) H2) :
    tCallS (sp_read_officer K) (WE Wx) (tCons (tVar j) (tCons (tVar m) tNil)) σ H Q :=
  ⟨_, h1, _, h2, r, a, t, i, f, rfl, hR, ht, hi, hN, k1, fun n rest e1 e2 e3 e4 => by subst e3; exact k2 n e1 e2 e4⟩
theorem ok_read_officer (S : Top K mg) : Has P w K mg base (L2.CX P w) "read_officer" 6 P_read_officer (sp_read_officer K) := by
  refine has_ofX (g_read_officer S) (fn_read_officer S) sc_read_officer bi_read_officer (fun vs H Q E h => ?_) (fun cdv A outer s H vs Q E hr h => ?_)
  · obtain ⟨r, a, t, i, f, rfl, _⟩ := h
    rfl
  · obtain ⟨r, a, t, i, f, rfl, hR, ht, hi, hN, k1, k2⟩ := h
    refine ⟨_, (pss_cons (ps_set (i := 2) sc_read_officer.nd rfl (Or.inl rfl) (pe_hS (ok_shown_officer S) (hr.mono (by omega)) rfl (takes_of rfl rfl rfl rfl) (pa_cons (pv 0) (pa_cons (pv 1) pa_nil))))
      (pss_cons (ps_expr (pe_m0 K (pv 0) (ok_Reader_go_on S) (hr.mono (by omega))))
      (pss_one (ps_ret (pv 2))))), ?_⟩
    refine q_set (c_shown rfl rfl hR ht hi hN k1 fun n e1 e2 e3 H1 ex => ?_)
    refine q_goon (hR.ex ex) rfl fun H2 eb hR2 => ?_
    exact s_ret (ev_var rfl) fun H3 e3' => k2 n _ e1 e2 rfl e3 H3 ((Ex.b ex).trans (eb.trans (Ex.b e3'))) (hR2.ex e3')
end
end CK
/-! reading.py: so many of some officers -/
namespace CK
open PySem PySem.Spec PyProof.Rows L2 Evl
open Vbpxaf (bit count opens File nameOf Now mayBe done acting may W RESERVED officersIn officerIn listIn)
open VbpxCore (isName isLetter cut placeOf ahead)
section
variable {P : Program} {w : World} {K : PySem.W.Frag} {mg : Str → Option Value} {base : Heap}
theorem ws_at {t : List Nat} {i : Nat} (hi : i ≤ (cut 0 t).length) : ∃ wd, (wsOf t)[i]? = some wd ∧ placeOf t.length ((cut 0 t).drop i) = wd.1 ∧ ((cut 0 t).drop i = wd :: (cut 0 t).drop (i + 1) ∧ i < (cut 0 t).length ∨ (cut 0 t).drop i = [] ∧ wd = (t.length, []) ∧ i = (cut 0 t).length) := by
  rcases ws_cases hi with ⟨h1, h2, h3⟩ | ⟨wd, h1, h2, h3⟩
  · exact ⟨_, h2, by rw [h1]; rfl, .inr ⟨h1, rfl, h3⟩⟩
  · exact ⟨wd, h2, by rw [h1]; rfl, .inl ⟨h1, h3⟩⟩
/-- the word is this one, as the specification asks it -/
theorem ahead_iff {t : List Nat} {i : Nat} {wd : Nat × List Nat} {k : List Nat} (hk : k ≠ []) (hi : i ≤ (cut 0 t).length) (hw : (wsOf t)[i]? = some wd) : ahead k ((cut 0 t).drop i) = decide (wd.2 = k) := by
  rcases ws_cases hi with ⟨h1, h2, h3⟩ | ⟨wd', h1, h2, h3⟩
  · rw [hw] at h2
    cases h2
    rw [h1]
    exact (decide_eq_false fun z => hk z.symm).symm
  · rw [hw] at h2
    cases h2
    rw [h1]
    show (wd.2 == k) = _
    rw [Bool.beq_eq_decide_eq]
theorem list_stop {f : File} {e k g lo : Nat} {l : List Nat} {ws : List (Nat × List Nat)} (h : ahead [41] ws = true ∧ k ≤ l.length) : listIn f e k g lo l ws = .ok (l, ws.drop 1) := by
  cases g with
  | zero => exact if_pos h
  | succ g => exact if_pos h
theorem list_err {f : File} {e k g lo n : Nat} {l : List Nat} {ws : List (Nat × List Nat)} (h : ¬ (ahead [41] ws = true ∧ k ≤ l.length)) (ho : officerIn f e ws = .error n) (hp : n = placeOf e ws) : listIn f e k g lo l ws = .error n := by
  cases g with
  | zero =>
    rw [hp]
    exact if_neg h
  | succ g =>
    have e1 : listIn f e k (g + 1) lo l ws = (officerIn f e ws >>= fun p => if p.1 < lo then .error (placeOf e ws) else listIn f e k g (p.1 + 1) (l ++ [p.1]) p.2) := if_neg h
    rw [e1, ho]
    rfl
theorem list_low {f : File} {e k g lo n : Nat} {l : List Nat} {ws r : List (Nat × List Nat)} (h : ¬ (ahead [41] ws = true ∧ k ≤ l.length)) (ho : officerIn f e ws = .ok (n, r)) (hn : n < lo) : listIn f e k g lo l ws = .error (placeOf e ws) := by
  cases g with
  | zero => exact if_neg h
  | succ g =>
    have e1 : listIn f e k (g + 1) lo l ws = (officerIn f e ws >>= fun p => if p.1 < lo then .error (placeOf e ws) else listIn f e k g (p.1 + 1) (l ++ [p.1]) p.2) := if_neg h
    rw [e1, ho]
    exact if_pos hn
theorem list_more {f : File} {e k g lo n : Nat} {l : List Nat} {ws r : List (Nat × List Nat)} (h : ¬ (ahead [41] ws = true ∧ k ≤ l.length)) (ho : officerIn f e ws = .ok (n, r)) (hn : ¬ n < lo) : listIn f e k (g + 1) lo l ws = listIn f e k g (n + 1) (l ++ [n]) r := by
  have e1 : listIn f e k (g + 1) lo l ws = (officerIn f e ws >>= fun p => if p.1 < lo then .error (placeOf e ws) else listIn f e k g (p.1 + 1) (l ++ [p.1]) p.2) := if_neg h
  rw [e1, ho]
  exact if_neg hn
theorem spl_one {w k : List Nat} (hk : k.all sgB = true) : decide (spl w = k) = decide (w = k) := decide_eq_decide.mpr (spl_iff hk)
structure Chosen (f : File) (m : Nat) (l : List Nat) : Prop where
  ne : l ≠ []
  few : l.length ≤ 6
  all : ∀ n ∈ l, n < count f
  enough : m ≤ l.length
def sp_read_chosen (K : PySem.W.Frag) : Sp := fun vs H Q E => ∃ (r a : Addr) (t : List Nat) (i m : Nat) (f : File), vs = [.ref r, .ref a, .int (m : Int)] ∧ ReaderAt K H r (wsOf t) i ∧ t.length ≤ 2000 ∧ i ≤ (cut 0 t).length ∧ NamesAt K H a f ∧ 0 < m ∧
  (∀ n, listIn f t.length m 6 0 [] ((cut 0 t).drop i) = .error n → RaisedB K r n H E) ∧
  (∀ l rest, listIn f t.length m 6 0 [] ((cut 0 t).drop i) = .ok (l, rest) → Chosen f m l → ∀ p H2 j, H p = none → ExB r H H2 → H2 p = some (.lst (nats l)) → ReaderAt K H2 r (wsOf t) j → i < j → j ≤ (cut 0 t).length → rest = (cut 0 t).drop j → Q (.ref p) H2)
theorem drop_drop1 {α : Type} {l : List α} (j : Nat) : (l.drop j).drop 1 = l.drop (j + 1) := by rw [List.drop_drop]
theorem NamesAt.exB {H H' : Hp} {a r C dx : Addr} {fs : List (Str × V)} {f : File} (h : NamesAt K H a f) (hr : H r = some (.ins C dx fs)) (e : ExB r H H') : NamesAt K H' a f := ⟨e _ _ (fun z => by have := h.1; rw [z, hr] at this; cases this) h.1, h.2⟩
theorem ReaderAt.names {H H' : Hp} {a r : Addr} {ws : List (Nat × List Nat)} {i : Nat} {f : File} (hR : ReaderAt K H r ws i) (h : NamesAt K H a f) (e : ExB r H H') : NamesAt K H' a f := by
  obtain ⟨dx, l, h1, _⟩ := hR
  exact h.exB h1 e
/-- a list of whole numbers grows beside the reader -/
theorem ReaderAt.grow {H : Hp} {r p : Addr} {ws : List (Nat × List Nat)} {i : Nat} {l l' : List Nat} (hR : ReaderAt K H r ws i) (hp : H p = some (.lst (nats l))) (hw : ws ≠ []) : ReaderAt K (upd H p (.lst (nats l'))) r ws i := by
  obtain ⟨dx, wl, h1, ps, h2, h3⟩ := hR
  have rne : r ≠ p := fun z => by rw [z, hp] at h1; cases h1
  have wne : wl ≠ p := fun z => by
    rw [z, hp] at h2
    have h4 := Option.some.inj h2
    injection h4 with h5
    have h6 := paired_len h3
    cases ps with
    | nil =>
      cases ws with
      | nil => exact hw rfl
      | cons a b => simp at h6
    | cons a b =>
      cases l with
      | nil => simp [nats] at h5
      | cons c d => simp [nats] at h5
  refine ⟨dx, wl, by rw [upd_ne rne]; exact h1, ps, by rw [upd_ne wne]; exact h2, L2.Paired.mapP h3 fun q x z => ?_⟩
  obtain ⟨d, hd⟩ := z
  exact ⟨d, by rw [upd_ne (fun z => by rw [z, hp] at hd; cases hd)]; exact hd⟩
theorem ws_ne (t : List Nat) : wsOf t ≠ [] := by simp [wsOf]
theorem atI_end (l : List Nat) (x : Nat) : atI (nats (l ++ [x])) (-1) = some (.int (x : Int)) := by
  have e : nats (l ++ [x]) = nats l ++ [.int (x : Int)] := by simp [nats]
  rw [e]
  exact atI_last _ _
theorem ok_read_chosen (S : Top K mg) : Has P w K mg base (L2.CX P w) "read_chosen" 7 P_read_chosen (sp_read_chosen K) := by
  refine has_ofX (g_read_chosen S) (fn_read_chosen S) sc_read_chosen bi_read_chosen (fun vs H Q E h => ?_) (fun cdv A outer s H vs Q E hr h => ?_)
  · obtain ⟨r, a, t, i, m, f, rfl, _⟩ := h
    rfl
  · obtain ⟨r, a, t, i, m, f, rfl, hR, ht, hi, hN, hm, k1, k2⟩ := h
    refine ⟨_, (pss_cons (ps_set (i := 3) sc_read_chosen.nd rfl (Or.inl rfl) (pe_lst (pa_cons (pe_hS (ok_read_officer S) (hr.mono (by omega)) rfl (takes_of rfl rfl rfl rfl) (pa_cons (pv 0) (pa_cons (pv 1) pa_nil))) pa_nil)))
      (pss_cons (ps_while (passes_of rfl) (PW.pt (pw_or (pt_cmpR op_ne (pe_m0 K (pv 0) (ok_Reader_shown S) (hr.mono (by omega))) pe_str (nomark _)) (pw_or1 (pt_cmpR op_lt (pe_callB (cLen K) (by rfl) (n_len S) PySem.boot_len (pa_cons (pv 3) pa_nil)) (pv 2) (nomark _)))))
      (pss_cons (ps_set (i := 4) sc_read_chosen.nd rfl (Or.inl rfl) (pe_hS (ok_shown_officer S) (hr.mono (by omega)) rfl (takes_of rfl rfl rfl rfl) (pa_cons (pv 0) (pa_cons (pv 1) pa_nil))))
      (pss_cons (ps_if (pt_cmpR op_le (pv 4) (pe_ix (ixL K) (pv 3) (pe_un un_neg pe_int) (fun _ _ => rfl)) (nomark _))
      (pss_one (ps_expr (pe_mS0 K (pv 0) (ok_Reader_refuse S) (hr.mono (by omega)) (takes_of rfl rfl rfl rfl)))) pss_nil)
      (pss_cons (ps_expr (pe_bmK K PySem.F.plainAttrs_list PySem.F.slot_list_append PySem.F.type_list_append mt_append (pv 3) (pa_cons (pv 4) pa_nil)))
      (pss_one (ps_expr (pe_m0 K (pv 0) (ok_Reader_go_on S) (hr.mono (by omega)))))))))
      (pss_cons (ps_expr (pe_m0 K (pv 0) (ok_Reader_go_on S) (hr.mono (by omega))))
      (pss_one (ps_ret (pv 3)))))), ?_⟩
    have few : count f ≤ 6 := hN.2.few
    have hno : ¬ (ahead [41] ((cut 0 t).drop i) = true ∧ m ≤ ([] : List Nat).length) := fun z => by have := z.2; simp at this; omega
    refine q_set (c_read rfl rfl hR ht hi hN (fun n e1 => ?_) fun n e1 e2 e3 H1 eb1 hR1 => ⟨(by simp [sizeLine_eq]), fun p hp => ?_⟩)
    · refine k1 n (list_err hno e1 ?_)
      obtain ⟨wd, hw, hc⟩ := officer_cases hi hN.2
      obtain ⟨wd', hw', hpl, _⟩ := ws_at hi
      rw [hw] at hw'
      cases hw'
      rw [hpl]
      rcases hc with ⟨_, h2⟩ | ⟨n', _, h2, _⟩
      · rw [e1] at h2
        cases h2
        rfl
      · rw [e1] at h2
        cases h2
    · have hp0 : H p = none := eb1.fresh hR.there hp hR1.there
      have hN1 := hR.names hN eb1
      have e2' : Ex H1 (upd H1 p (.lst [V.int (n : Int)])) := Ex.new hp
      have hfirst : listIn f t.length m 6 0 [] ((cut 0 t).drop i) = listIn f t.length m 5 (n + 1) [n] ((cut 0 t).drop (i + 1)) := list_more hno e1 (by omega)
      refine q_while (fun mm σ' H' => ∃ (l : List Nat) (x j : Nat) (v : Option V), σ' = [some (.ref r), some (.ref a), some (.int (m : Int)), some (.ref p), v] ∧ mm = (cut 0 t).length - j ∧ ExB r H H' ∧ H' p = some (.lst (nats (l ++ [x]))) ∧ ReaderAt K H' r (wsOf t) j ∧ i < j ∧ j ≤ (cut 0 t).length ∧ (l ++ [x]).length ≤ x + 1 ∧ (∀ n ∈ l ++ [x], n < count f) ∧
          listIn f t.length m 6 0 [] ((cut 0 t).drop i) = listIn f t.length m (6 - (l ++ [x]).length) (x + 1) (l ++ [x]) ((cut 0 t).drop j)) ((cut 0 t).length - (i + 1))
        ⟨[], n, i + 1, none, rfl, rfl, eb1.trans (Ex.b e2'), upd_same, hR1.ex e2', by omega, e2, by simp, fun y hy => by
          have : y = n := by simpa using hy
          omega, hfirst⟩ ?_
      rintro mm σ' H' ⟨l, x, j, v, rfl, rfl, eb, hl, hR', hij, hj, hlen, hall, hspec⟩
      have hN' := hR.names hN eb
      obtain ⟨wd, hw, hpl, hdr⟩ := ws_at hj
      have hah := ahead_iff (k := [41]) (by simp) hj hw
      have hx : x < count f := hall x (by simp)
      have hl6 : (l ++ [x]).length ≤ 6 := by omega
      have hlz : (l ++ [x]).length = l.length + 1 := by simp
      refine ⟨!decide (wd.2 = [41]) || decide ((l ++ [x]).length < m), et_or (et_is (et_test (ev_op (ev_shown hR' hw rfl) (ev_is ev_c (congrArg V.str (by decide +kernel : (")" : Str) = st [41]))) (rv_ne rfl))) (by rw [dec_st, spl_one (by decide)])) fun _ => et_is (et_test (ev_op (ev_len (ev_var rfl) (sq_of hl)) (ev_var rfl) rv_I0)) (by rw [nats_len]; exact decide_eq_decide.mpr (by omega)), fun hb H2 e2 => ?_, fun hb H2 e2 => ?_⟩
      · have hcond : ¬ (ahead [41] ((cut 0 t).drop j) = true ∧ m ≤ (l ++ [x]).length) := fun z => by
          rw [hah] at z
          have z1 := of_decide_eq_true z.1
          rw [decide_eq_true z1, decide_eq_false (by omega)] at hb
          cases hb
        refine ⟨fun σ2 H3 => ∃ y : Nat, σ2 = [some (.ref r), some (.ref a), some (.int (m : Int)), some (.ref p), some (.int (y : Int))] ∧ j < (cut 0 t).length ∧ x < y ∧ y < count f ∧ ExB r H H3 ∧ H3 p = some (.lst (nats ((l ++ [x]) ++ [y]))) ∧ ReaderAt K H3 r (wsOf t) (j + 1) ∧
            listIn f t.length m (6 - (l ++ [x]).length) (x + 1) (l ++ [x]) ((cut 0 t).drop j) = listIn f t.length m (6 - ((l ++ [x]) ++ [y]).length) (y + 1) ((l ++ [x]) ++ [y]) ((cut 0 t).drop (j + 1)), ?_, ?_⟩
        · rintro σ2 H3 ⟨y, rfl, hjl, hxy, hyc, eb3, hl3, hR3, hsp3⟩
          refine ⟨(cut 0 t).length - (j + 1), by omega, l ++ [x], y, j + 1, _, rfl, rfl, eb3, hl3, hR3, by omega, hjl, by simp; omega, fun z hz => ?_, hspec.trans hsp3⟩
          rcases List.mem_append.mp hz with hz | hz
          · exact hall z hz
          · have : z = y := by simpa using hz
            omega
        · have hRe := hR'.ex e2
          refine q_set (c_shown rfl rfl hRe ht hj (hN'.ex e2) (fun n' er => ?_) fun y eo hjl hyc H3 e3 => ?_)
          · refine RaisedB.mono (k1 n' ?_) (eb.trans (Ex.b e2)) hR.there hRe.there
            rw [hspec]
            refine list_err hcond er ?_
            obtain ⟨wd', hw', hc⟩ := officer_cases hj hN.2
            rw [hw] at hw'
            cases hw'
            rw [hpl]
            rcases hc with ⟨_, h2⟩ | ⟨n2, _, h2, _⟩
            · rw [er] at h2
              cases h2
              rfl
            · rw [er] at h2
              cases h2
          · have hl3 := (e2.trans e3) _ _ hl
            have hR3 := hRe.ex e3
            refine q_when (b := decide (y ≤ x)) (et_is (et_test (ev_op (ev_var rfl) (ev_op (ev_var rfl) (ev_is (ev_un ev_c ru_neg) rfl) (rv_ixL (sq_of hl3) (atI_end l x))) rv_I0)) (decide_eq_decide.mpr (by omega))) (fun hb2 H4 e4 => ?_) fun hb2 H4 e4 => ?_
            · have hyx := of_decide_eq_true hb2
              refine s_refuse (hR3.ex e4) hw rfl (RaisedB.mono (k1 wd.1 ?_) (eb.trans (Ex.b ((e2.trans e3).trans e4))) hR.there (hR3.ex e4).there)
              rw [hspec, ← hpl]
              exact list_low hcond eo (by omega)
            · have hyx := of_decide_eq_false hb2
              have hR4 := hR3.ex e4
              refine q_app (e4 _ _ hl3) (ev_var rfl) (ev_var rfl) (by rw [nats_len]; omega) fun H5 e5 => ?_
              have hl5 := (e4.trans e5) _ _ hl3
              have he : nats (l ++ [x]) ++ [V.int (y : Int)] = nats ((l ++ [x]) ++ [y]) := by simp [nats]
              rw [he]
              refine s_goon ((hR4.ex e5).grow hl5 (ws_ne t)) rfl fun H6 e6 hR6 => ⟨y, rfl, hjl, by omega, hyc, fun b o nb hb => ?_, ?_, hR6, ?_⟩
              · refine e6 b o nb ?_
                rw [upd_ne (fun z => by rw [z, hp0] at hb; cases hb)]
                exact (((e2.trans e3).trans e4).trans e5) _ _ (eb b o nb hb)
              · refine e6 _ _ (fun z => ?_) upd_same
                have := hR.there
                rw [← z] at this
                exact this hp0
              · have hg : 6 - (l ++ [x]).length = (6 - ((l ++ [x]) ++ [y]).length) + 1 := by
                  simp
                  omega
                rw [hg]
                exact list_more hcond eo (by omega)
      · have hb' : wd.2 = [41] ∧ m ≤ (l ++ [x]).length := by
          obtain ⟨b1, b2⟩ := Bool.or_eq_false_iff.mp hb
          refine ⟨?_, by have := of_decide_eq_false b2; omega⟩
          simpa using b1
        have hstop : ahead [41] ((cut 0 t).drop j) = true ∧ m ≤ (l ++ [x]).length := ⟨by rw [hah]; exact decide_eq_true hb'.1, hb'.2⟩
        have hjl : j < (cut 0 t).length := by
          rcases hdr with ⟨_, h⟩ | ⟨_, h, _⟩
          · exact h
          · rw [h] at hb'
            cases hb'.1
        refine q_goon (hR'.ex e2) rfl fun H3 e3 hR3 => ?_
        refine s_ret (ev_var rfl) fun H4 e4 => k2 (l ++ [x]) _ (hspec.trans (list_stop hstop)) ⟨by simp, hl6, hall, hb'.2⟩ p H4 (j + 1) hp0 ((eb.trans (Ex.b e2)).trans (e3.trans (Ex.b e4))) ?_ (hR3.ex e4) (by omega) hjl (drop_drop1 j)
        refine e4 _ _ (e3 _ _ (fun z => ?_) (e2 _ _ hl))
        have := hR.there
        rw [← z] at this
        exact this hp0
end
end CK
/-! reading.py: rules -/
namespace CK
open PySem PySem.Spec PyProof.Rows L2 Evl
open Vbpxaf (bit count opens File nameOf Now mayBe done acting may W RESERVED officersIn officerIn listIn ruleIn orIn partIn andIn oneIn)
open VbpxCore (isName isLetter cut placeOf ahead must natOf)
section
variable {P : Program} {w : World} {K : PySem.W.Frag} {mg : Str → Option Value} {base : Heap}
theorem bindOk {α β : Type} (x : α) (k : α → Except Nat β) : ((Except.ok x : Except Nat α) >>= k) = k x := rfl
abbrev Wds := List (Nat × List Nat)
theorem sqB {H H' : Hp} {a r C dx : Addr} {fs : List (Str × V)} {xs : List V} (h : SqL K H a xs) (hr : H r = some (.ins C dx fs)) (e : ExB r H H') : SqL K H' a xs := by
  rcases h with (h | ⟨o, h⟩) | h
  · exact .inl (.inl (e _ _ (fun z => by rw [z, hr] at h; cases h) h))
  · exact .inl (.inr ⟨o, e _ _ (fun z => by rw [z, hr] at h; cases h) h⟩)
  · exact .inr h
theorem rule_ne {x y z u v : V} : nmRule.zip [x, y, z] ≠ nmReader.zip [u, v] := fun h => by
  have h5 := congrArg (fun l : List (Str × V) => l.map (·.1)) h
  revert h5
  show ¬ (nmRule = nmReader)
  decide +kernel
theorem ReaderAt.rule {H H' : Hp} {p r : Addr} {ws : Wds} {i : Nat} {f : File} {rl : Vbpxaf.Rule} (hR : ReaderAt K H r ws i) (h : RuleAt K H p f rl) (e : ExB r H H') : RuleAt K H' p f rl := by
  obtain ⟨dx, l, h1, _⟩ := hR
  obtain ⟨dy, q, h2, h3, h4⟩ := h
  refine ⟨dy, q, e _ _ (fun z => ?_) h2, h3, sqB h4 h1 e⟩
  rw [z, h1] at h2
  have h5 := Option.some.inj h2
  injection h5 with _ _ h6
  exact rule_ne h6.symm
/-- what reading a rule comes to -/
structure Reads (K : PySem.W.Frag) (r : Addr) (t : List Nat) (i : Nat) (f : File) (X : Except Nat (Vbpxaf.Rule × Wds)) (H : Hp) (Q : VK) (E : XK) : Prop where
  err : ∀ n, X = .error n → RaisedB K r n H E
  ok : ∀ rl rest, X = .ok (rl, rest) → ∀ p H2 j, H p = none → ExB r H H2 → ReaderAt K H2 r (wsOf t) j → i < j → j ≤ (cut 0 t).length → rest = (cut 0 t).drop j → RuleAt K H2 p f rl → RuleOk f rl → rsz rl ≤ 100 * (j - i) → Q (.ref p) H2
theorem Reads.mono {r : Addr} {t : List Nat} {i i' : Nat} {f : File} {X : Except Nat (Vbpxaf.Rule × Wds)} {H H' : Hp} {Q : VK} {E : XK} (h : Reads K r t i f X H Q E) (e : ExB r H H') (hr : H r ≠ none) (hr' : H' r ≠ none) (hi : i ≤ i') : Reads K r t i' f X H' Q E :=
  ⟨fun n hn => (h.err n hn).mono e hr hr', fun rl rest ho p H2 j hp eb hR hj hl hd hA hO hz => h.ok rl rest ho p H2 j (e.fresh hr hp hr') (e.trans eb) hR (by omega) hl hd hA hO (by omega)⟩
/-- what must stand there, as the specification has it -/
theorem must_at {t : List Nat} {i : Nat} {wd : Nat × List Nat} {k : List Nat} (hk : k ≠ []) (hi : i ≤ (cut 0 t).length) (hw : (wsOf t)[i]? = some wd) : (wd.2 = k → i < (cut 0 t).length ∧ must t.length k ((cut 0 t).drop i) = .ok ((cut 0 t).drop (i + 1))) ∧ (wd.2 ≠ k → must t.length k ((cut 0 t).drop i) = .error wd.1) := by
  rcases ws_cases hi with ⟨h1, h2, h3⟩ | ⟨wd', h1, h2, h3⟩
  · rw [hw] at h2
    cases h2
    rw [h1]
    exact ⟨fun z => absurd z.symm hk, fun _ => rfl⟩
  · rw [hw] at h2
    cases h2
    rw [h1]
    exact ⟨fun z => ⟨h3, if_pos z⟩, fun z => if_neg z⟩
theorem sp_one {w k : List Nat} (hk : k.all sgB = true) : spl w = k ↔ w = k := spl_iff hk
/-! ### so many of -/
def soMany (f : File) (e k : Nat) (ws : Wds) : Except Nat (Vbpxaf.Rule × Wds) := do
  let ws ← must e (W "of") ws
  let ws ← must e [40] ws
  let (l, rest) ← listIn f e k 6 0 [] ws
  return (.some_ k l, rest)
def sp_read_so_many (K : PySem.W.Frag) : Sp := fun vs H Q E => ∃ (r a : Addr) (t : List Nat) (i m : Nat) (f : File) (pl : Nat), vs = [.ref r, .ref a] ∧ ReaderAt K H r (wsOf t) i ∧ t.length ≤ 2000 ∧ i < (cut 0 t).length ∧ NamesAt K H a f ∧ (wsOf t)[i]? = some (pl, [48 + m]) ∧ 0 < m ∧ m ≤ 6 ∧ Reads K r t i f (soMany f t.length m ((cut 0 t).drop (i + 1))) H Q E
theorem int_of : ∀ m : Fin 7, 0 < m.val → PySem.intText? (st [48 + m.val]) = some (m.val : Int) := by decide +kernel
theorem dig_sg : ∀ m : Fin 7, ([48 + m.val] : List Nat).all sgB = true := by decide +kernel
theorem ok_read_so_many (S : Top K mg) : Has P w K mg base (L2.CX P w) "read_so_many" 8 P_read_so_many (sp_read_so_many K) := by
  refine has_ofX (g_read_so_many S) (fn_read_so_many S) sc_read_so_many bi_read_so_many (fun vs H Q E h => ?_) (fun cdv A outer s H vs Q E hr h => ?_)
  · obtain ⟨r, a, t, i, m, f, pl, rfl, _⟩ := h
    rfl
  · obtain ⟨r, a, t, i, m, f, pl, rfl, hR, ht, hi, hN, hw, m0, m6, kk⟩ := h
    refine ⟨_, (pss_cons (ps_set (i := 2) sc_read_so_many.nd rfl (Or.inl rfl) (pe_callTy call_int_str (by rfl) (n_int S) boot_int' (pa_cons (pe_m0 K (pv 0) (ok_Reader_shown S) (hr.mono (by omega))) pa_nil)))
      (pss_cons (ps_expr (pe_m0 K (pv 0) (ok_Reader_go_on S) (hr.mono (by omega))))
      (pss_cons (ps_expr (pe_mS K (pv 0) (ok_Reader_expect S) (hr.mono (by omega)) (takes_of rfl rfl rfl rfl) (pa_cons pe_str pa_nil)))
      (pss_cons (ps_expr (pe_mS K (pv 0) (ok_Reader_expect S) (hr.mono (by omega)) (takes_of rfl rfl rfl rfl) (pa_cons pe_str pa_nil)))
      (pss_one (ps_ret (pe_h (ok_so_many_rule S) (hr.mono (by omega)) rfl (pa_cons (pv 1) (pa_cons (pv 2) (pa_cons (pe_hS (ok_read_chosen S) (hr.mono (by omega)) rfl (takes_of rfl rfl rfl rfl) (pa_cons (pv 0) (pa_cons (pv 1) (pa_cons (pv 2) pa_nil)))) pa_nil)))))))))), ?_⟩
    have hs : spl [48 + m] = [48 + m] := (spl_iff (dig_sg ⟨m, by omega⟩)).mpr rfl
    refine q_asg (v := .int (m : Int)) (fun H1 e1 Q1 q1 => ev_shown (hR.ex e1) hw rfl H1 (Ex.refl H1) _ fun H2 e2 => ⟨_, (m : Int), rfl, ?_, ?_, q1 H2 e2⟩) fun H1 e1 => ?_
    · rw [hs]
      exact int_of ⟨m, by omega⟩ m0
    · rw [hs, st_len]
      simp
    refine q_goon (hR.ex e1) rfl fun H2 e2 hR2 => ?_
    have eb2 : ExB r H H2 := (Ex.b e1).trans e2
    obtain ⟨wd, hw2, _, _⟩ := ws_at (t := t) (i := i + 1) (by omega)
    have hm1 := must_at (k := W "of") (by decide +kernel) (show i + 1 ≤ _ by omega) hw2
    refine q_expect (b := W "of") (by decide +kernel) hR2 hw2 rfl (fun h3 H3 e3 hR3 => ?_) fun h3 => RaisedB.mono (kk.err _ ?_) eb2 hR.there hR2.there
    rotate_left
    · unfold soMany
      rw [hm1.2 fun z => h3 ((spl_iff (by decide +kernel)).mpr z)]
      rfl
    obtain ⟨hi1, hm1'⟩ := hm1.1 ((spl_iff (by decide +kernel)).mp h3)
    have eb3 := eb2.trans e3
    obtain ⟨wd', hw3, _, _⟩ := ws_at (t := t) (i := i + 2) (by omega)
    have hm2 := must_at (k := [40]) (by simp) (show i + 2 ≤ _ by omega) hw3
    refine q_expect (b := [40]) (by decide +kernel) hR3 hw3 rfl (fun h4 H4 e4 hR4 => ?_) fun h4 => RaisedB.mono (kk.err _ ?_) eb3 hR.there hR3.there
    rotate_left
    · unfold soMany
      rw [hm1', bindOk, hm2.2 fun z => h4 ((spl_iff (by decide +kernel)).mpr z)]
      rfl
    obtain ⟨hi2, hm2'⟩ := hm2.1 ((spl_iff (by decide +kernel)).mp h4)
    have eb4 := eb3.trans e4
    have hsp : soMany f t.length m ((cut 0 t).drop (i + 1)) = (listIn f t.length m 6 0 [] ((cut 0 t).drop (i + 3)) >>= fun z => pure (.some_ m z.1, z.2)) := by
      unfold soMany
      rw [hm1', bindOk, hm2']
      rfl
    have hN4 := hR.names hN eb4
    refine ⟨_, rfl, _, rfl, _, rfl, _, rfl, _, rfl, r, a, t, i + 3, m, f, rfl, hR4, ht, hi2, hN4, m0, fun n hn => RaisedB.mono (kk.err n ?_) eb4 hR.there hR4.there, fun l rest hl hc p H5 j hp e5 h5 hR5 hj hjl hrest => ?_⟩
    · rw [hsp, hn]
      rfl
    · refine ⟨a, p, f, m, l, rfl, hR4.names hN4 e5, sq_of h5, ⟨m0, m6, hc.ne, hc.few, hc.all⟩, fun q H6 hq e6 hA => ?_⟩
      have eb5 := eb4.trans e5
      refine kk.ok (.some_ m l) rest ?_ q H6 j (eb5.fresh hR.there hq hR5.there) (eb5.trans (Ex.b e6)) (hR5.ex e6) (by omega) hjl hrest hA ⟨m0, m6, hc.ne, hc.few, hc.all⟩ ?_
      · rw [hsp, hl]
        rfl
      · show 100 ≤ _
        omega
end
end CK
/-! reading.py: rules, one in another -/
namespace CK
open PySem PySem.Spec PyProof.Rows L2 Evl
open Vbpxaf (bit count opens File nameOf Now mayBe done acting may W RESERVED officersIn officerIn listIn ruleIn orIn partIn andIn oneIn)
open VbpxCore (isName isLetter cut placeOf ahead must natOf)
section
variable {P : Program} {w : World} {K : PySem.W.Frag} {mg : Str → Option Value} {base : Heap}
/-- a rule, a part, a one is read: d brackets may still be opened -/
def sp_in (K : PySem.W.Frag) (c d : Nat) (F : File → Nat → Nat → Nat → Wds → Except Nat (Vbpxaf.Rule × Wds)) : Sp := fun vs H Q E => ∃ (r a : Addr) (t : List Nat) (i g : Nat) (f : File) (b : Int), vs = [.ref r, .ref a, .int b] ∧ b + (d : Int) = 8 ∧ ReaderAt K H r (wsOf t) i ∧ t.length ≤ 2000 ∧ i ≤ (cut 0 t).length ∧ NamesAt K H a f ∧ 5 * ((cut 0 t).length - i) + c ≤ g ∧ Reads K r t i f (F f t.length g d ((cut 0 t).drop i)) H Q E
/-- behind an opened bracket -/
def inBrk (f : File) (e g d p : Nat) (ws : Wds) : Except Nat (Vbpxaf.Rule × Wds) := match d with
  | 0 => .error p
  | d + 1 => do
    let (a, ws) ← ruleIn f e g d ws
    let ws ← must e [41] ws
    return (a, ws)
def sp_read_bracket (K : PySem.W.Frag) (d : Nat) : Sp := fun vs H Q E => ∃ (r a : Addr) (t : List Nat) (i g : Nat) (f : File) (b : Int) (wd : Nat × List Nat), vs = [.ref r, .ref a, .int b] ∧ b + (d : Int) = 8 ∧ ReaderAt K H r (wsOf t) i ∧ t.length ≤ 2000 ∧ i < (cut 0 t).length ∧ NamesAt K H a f ∧ (wsOf t)[i]? = some wd ∧ 5 * ((cut 0 t).length - i) ≤ g ∧ Reads K r t i f (inBrk f t.length g d wd.1 ((cut 0 t).drop (i + 1))) H Q E
/-- within brackets that may not be opened, nothing is read -/
def sp_none : Sp := fun _ _ _ _ => False
def spInner (K : PySem.W.Frag) : Nat → Sp
  | 0 => sp_none
  | d + 1 => sp_in K 3 d ruleIn
theorem bracket_of (S : Top K mg) (d : Nat) (ok_read_rule : ∀ S : Top K mg, Has P w K mg base (L2.CX P w) "read_rule" (4 * d + 8) P_read_rule (spInner K d)) : Has P w K mg base (L2.CX P w) "read_bracket" (4 * d + 9) P_read_bracket (sp_read_bracket K d) := by
  refine has_ofX (g_read_bracket S) (fn_read_bracket S) sc_read_bracket bi_read_bracket (fun vs H Q E h => ?_) (fun cdv A outer s H vs Q E hr h => ?_)
  · obtain ⟨r, a, t, i, g, f, b, wd, rfl, _⟩ := h
    rfl
  · obtain ⟨r, a, t, i, g, f, b, wd, rfl, hb, hR, ht, hi, hN, hw, hg, kk⟩ := h
    refine ⟨_, (pss_cons (ps_if (pt_cmpR op_eq (pv 2) (pe_gi (g_MOST_BRACKETS S) rfl) (nomark _))
      (pss_one (ps_expr (pe_mS0 K (pv 0) (ok_Reader_refuse S) (hr.mono (by omega)) (takes_of rfl rfl rfl rfl)))) pss_nil)
      (pss_cons (ps_expr (pe_m0 K (pv 0) (ok_Reader_go_on S) (hr.mono (by omega))))
      (pss_cons (ps_set (i := 3) sc_read_bracket.nd rfl (Or.inl rfl) (pe_hS (ok_read_rule S) (hr.mono (by omega)) rfl (takes_of rfl rfl rfl rfl) (pa_cons (pv 0) (pa_cons (pv 1) (pa_cons (pe_op op_add (pv 2) pe_int) pa_nil)))))
      (pss_cons (ps_expr (pe_mS K (pv 0) (ok_Reader_expect S) (hr.mono (by omega)) (takes_of rfl rfl rfl rfl) (pa_cons pe_str pa_nil)))
      (pss_one (ps_ret (pv 3))))))), ?_⟩
    refine q_when (b := decide (d = 0)) (et_is (et_test (ev_op (ev_var rfl) ev_c (rv_eq rfl))) (by rw [dec_int]; exact decide_eq_decide.mpr (by omega))) (fun h0 H1 e1 => ?_) fun h0 H1 e1 => ?_
    · have h0' := of_decide_eq_true h0
      subst h0'
      exact s_refuse (hR.ex e1) hw rfl (RaisedB.mono (kk.err _ rfl) (Ex.b e1) hR.there (hR.ex e1).there)
    · have h0' := of_decide_eq_false h0
      obtain ⟨d', rfl⟩ : ∃ d', d = d' + 1 := ⟨d - 1, by omega⟩
      refine q_goon (hR.ex e1) rfl fun H2 e2 hR2 => ?_
      have eb2 : ExB r H H2 := (Ex.b e1).trans e2
      refine q_set ⟨_, rfl, _, rfl, _, rfl, _, _, rfl, rfl, r, a, t, i + 1, g, f, b + 1, rfl, by omega, hR2, ht, hi, hR.names hN eb2, by omega, fun n hn => RaisedB.mono (kk.err n ?_) eb2 hR.there hR2.there, fun rl rest ho p H3 j hp e3 hR3 hij hj hrest hA hO hz => ?_⟩
      · show (ruleIn f t.length g d' _ >>= _) = _
        rw [hn]
        rfl
      · have eb3 := eb2.trans e3
        obtain ⟨wd', hw3, _, _⟩ := ws_at hj
        have hm := must_at (k := [41]) (by simp) hj hw3
        have hX : inBrk f t.length g (d' + 1) wd.1 ((cut 0 t).drop (i + 1)) = (must t.length [41] ((cut 0 t).drop j) >>= fun ws => pure (rl, ws)) := by
          show (ruleIn f t.length g d' _ >>= _) = _
          rw [ho, bindOk, hrest]
        refine q_expect (b := [41]) (by decide +kernel) hR3 hw3 rfl (fun h4 H4 e4 hR4 => ?_) fun h4 => RaisedB.mono (kk.err _ ?_) eb3 hR.there hR3.there
        · obtain ⟨hjl, hm'⟩ := hm.1 ((spl_iff (by decide +kernel)).mp h4)
          refine s_ret (ev_var rfl) fun H5 e5 => kk.ok rl _ (by rw [hX, hm']; rfl) p H5 (j + 1) (eb2.fresh hR.there hp hR2.there) ((eb3.trans e4).trans (Ex.b e5)) (hR4.ex e5) (by omega) hjl rfl (hR3.rule hA (e4.trans (Ex.b e5))) hO (by omega)
        · rw [hX, hm.2 fun z => h4 ((spl_iff (by decide +kernel)).mpr z)]
          rfl
/-! ### a one -/
theorem val_more {l : List Nat} {v : Nat} : v ≤ l.foldl (fun v d => v * 10 + d) v := by
  induction l generalizing v with
  | nil => exact Nat.le_refl _
  | cons c l ih => exact Nat.le_trans (by omega) (ih (v := v * 10 + c))
theorem nat_digit {w : List Nat} {k : Nat} (h : natOf w = some k) (h6 : k ≤ 6) : ∃ m, m ≤ 9 ∧ w = [48 + m] ∧ k = m := by
  unfold VbpxCore.natOf at h
  split at h
  · cases h
  · rename_i hn
    simp only [not_or] at hn
    obtain ⟨n1, n2, n3, n4⟩ := hn
    have hd : w.all VbpxCore.isDigit = true := by simpa using n3
    cases w with
    | nil => exact absurd rfl n1
    | cons c w =>
      rw [List.all_cons, Bool.and_eq_true] at hd
      have hc : 48 ≤ c ∧ c ≤ 57 := by
        have := hd.1
        unfold VbpxCore.isDigit at this
        simpa using this
      cases w with
      | nil =>
        have hk : k = c - 48 := by
          have := Option.some.inj h
          simp [VbpxCore.valueOf] at this
          omega
        exact ⟨c - 48, by omega, by simp; omega, hk⟩
      | cons e w =>
        exfalso
        have hz : c ≠ 48 := fun z => n4 (by subst z; simp [VbpxCore.isZeroLed])
        have hv := Option.some.inj h
        unfold VbpxCore.valueOf at hv
        rw [List.map_cons, List.map_cons, List.foldl_cons, List.foldl_cons] at hv
        have hm := val_more (l := w.map fun c => c - 48) (v := (0 * 10 + (c - 48)) * 10 + (e - 48))
        omega
theorem nat_of : ∀ m : Fin 7, natOf [48 + m.val] = some m.val := by decide +kernel
theorem one_dig {f : File} {e g d p m : Nat} {rest : Wds} (h0 : 0 < m) (h6 : m ≤ 6) : oneIn f e (g + 1) d ((p, [48 + m]) :: rest) = soMany f e m rest := by
  have n1 : ¬ (((p, [48 + m]) : Nat × List Nat).2 = [40]) := by simp; omega
  have n2 : ¬ (((p, [48 + m]) : Nat × List Nat).2 = W "anybody") := fun z => by
    have z' : ([48 + m] : List Nat) = W "anybody" := z
    have := congrArg List.length z'
    rw [show (W "anybody").length = 7 from by decide +kernel] at this
    cases this
  have n3 : ¬ (((p, [48 + m]) : Nat × List Nat).2 = W "nobody") := fun z => by
    have z' : ([48 + m] : List Nat) = W "nobody" := z
    have := congrArg List.length z'
    rw [show (W "nobody").length = 6 from by decide +kernel] at this
    cases this
  conv => lhs; unfold Vbpxaf.oneIn
  simp only [if_neg n1, if_neg n2, if_neg n3]
  have := nat_of ⟨m, by omega⟩
  simp only at this
  rw [this]
  simp only [if_pos (show 1 ≤ m ∧ m ≤ 6 from ⟨h0, h6⟩)]
  rfl
theorem one_brk {f : File} {e g d p : Nat} {rest : Wds} : oneIn f e (g + 1) d ((p, [40]) :: rest) = inBrk f e g d p rest := by
  conv => lhs; unfold Vbpxaf.oneIn
  simp only [if_true]
  cases d <;> rfl
theorem one_any {f : File} {e g d p : Nat} {rest : Wds} : oneIn f e (g + 1) d ((p, W "anybody") :: rest) = .ok (.anybody, rest) := by
  have n1 : ¬ (((p, W "anybody") : Nat × List Nat).2 = [40]) := by show ¬ (W "anybody" = [40]); decide +kernel
  conv => lhs; unfold Vbpxaf.oneIn
  simp only [if_neg n1, if_true]
theorem one_nob {f : File} {e g d p : Nat} {rest : Wds} : oneIn f e (g + 1) d ((p, W "nobody") :: rest) = .ok (.nobody, rest) := by
  have n1 : ¬ (((p, W "nobody") : Nat × List Nat).2 = [40]) := by show ¬ (W "nobody" = [40]); decide +kernel
  have n2 : ¬ (((p, W "nobody") : Nat × List Nat).2 = W "anybody") := by show ¬ (W "nobody" = W "anybody"); decide +kernel
  conv => lhs; unfold Vbpxaf.oneIn
  simp only [if_neg n1, if_neg n2, if_true]
theorem one_else {f : File} {e g d : Nat} {wd : Nat × List Nat} {rest : Wds} (hN : Names f) (h1 : wd.2 ≠ [40]) (h2 : wd.2 ≠ W "anybody") (h3 : wd.2 ≠ W "nobody") (h4 : ∀ m, 0 < m → m ≤ 6 → wd.2 ≠ [48 + m]) : oneIn f e (g + 1) d (wd :: rest) = (officerIn f e (wd :: rest) >>= fun z => pure (.who z.1, z.2)) := by
  conv => lhs; unfold Vbpxaf.oneIn
  simp only [if_neg h1, if_neg h2, if_neg h3]
  unfold Vbpxaf.officerIn
  cases hk : natOf wd.2 with
  | none =>
    simp only
    cases f.officers.findIdx? fun x => x == wd.2 <;> rfl
  | some k =>
    have hno : ¬ (1 ≤ k ∧ k ≤ 6) := fun z => by
      obtain ⟨m, _, hm, rfl⟩ := nat_digit hk z.2
      exact h4 k (by omega) z.2 hm
    simp only [if_neg hno]
    have hnot : f.officers.contains wd.2 = false := by
      cases hb : f.officers.contains wd.2 with
      | false => rfl
      | true =>
        exfalso
        have hl := hN.letters _ (List.contains_iff_mem.mp hb)
        unfold VbpxCore.natOf at hk
        split at hk
        · cases hk
        · rename_i hn
          simp only [not_or] at hn
          cases hw : wd.2 with
          | nil => rw [hw] at hn; exact hn.1 rfl
          | cons c r =>
            rw [hw] at hn hl
            have hd : (c :: r).all VbpxCore.isDigit = true := by simpa using hn.2.2.1
            rw [List.all_cons, Bool.and_eq_true] at hd hl
            have a1 := hd.1
            have a2 := hl.1
            unfold VbpxCore.isDigit at a1
            unfold VbpxCore.isLetter at a2
            simp at a1 a2
            omega
    rw [find_none hnot]
    rfl
theorem numbers : t_NUMBERS.map (He.Dv.v K) = nmsV [[49], [50], [51], [52], [53], [54]] := by
  show [V.str "1", V.str "2", V.str "3", V.str "4", V.str "5", V.str "6"] = [V.str (st [49]), V.str (st [50]), V.str (st [51]), V.str (st [52]), V.str (st [53]), V.str (st [54])]
  have h : ("1" : Str) = st [49] ∧ ("2" : Str) = st [50] ∧ ("3" : Str) = st [51] ∧ ("4" : Str) = st [52] ∧ ("5" : Str) = st [53] ∧ ("6" : Str) = st [54] := by decide +kernel
  rw [← h.1, ← h.2.1, ← h.2.2.1, ← h.2.2.2.1, ← h.2.2.2.2.1, ← h.2.2.2.2.2]
def digs : List (List Nat) := [[49], [50], [51], [52], [53], [54]]
theorem digs_iff (w : List Nat) : digs.contains w = true ↔ ∃ m, 0 < m ∧ m ≤ 6 ∧ w = [48 + m] := by
  rw [List.contains_iff_mem]
  unfold digs
  constructor
  · intro h
    simp only [List.mem_cons, List.not_mem_nil, or_false] at h
    rcases h with rfl | rfl | rfl | rfl | rfl | rfl
    · exact ⟨1, by decide⟩
    · exact ⟨2, by decide⟩
    · exact ⟨3, by decide⟩
    · exact ⟨4, by decide⟩
    · exact ⟨5, by decide⟩
    · exact ⟨6, by decide⟩
  · rintro ⟨m, h0, h6, rfl⟩
    have : m = 1 ∨ m = 2 ∨ m = 3 ∨ m = 4 ∨ m = 5 ∨ m = 6 := by omega
    rcases this with rfl | rfl | rfl | rfl | rfl | rfl <;> simp
theorem digs_spl (w : List Nat) : digs.contains (spl w) = digs.contains w := by
  rw [Bool.eq_iff_iff, digs_iff, digs_iff]
  constructor
  · rintro ⟨m, h0, h6, h⟩
    exact ⟨m, h0, h6, (spl_iff (dig_sg ⟨m, by omega⟩)).mp h⟩
  · rintro ⟨m, h0, h6, h⟩
    exact ⟨m, h0, h6, (spl_iff (dig_sg ⟨m, by omega⟩)).mpr h⟩
theorem one_of (S : Top K mg) (d : Nat) (ok_read_bracket : ∀ S : Top K mg, Has P w K mg base (L2.CX P w) "read_bracket" (4 * d + 9) P_read_bracket (sp_read_bracket K d)) : Has P w K mg base (L2.CX P w) "read_one" (4 * d + 10) P_read_one (sp_in K 1 d oneIn) := by
  refine has_ofX (g_read_one S) (fn_read_one S) sc_read_one bi_read_one (fun vs H Q E h => ?_) (fun cdv A outer s H vs Q E hr h => ?_)
  · obtain ⟨r, a, t, i, g, f, b, rfl, _⟩ := h
    rfl
  · obtain ⟨r, a, t, i, g, f, b, rfl, hb, hR, ht, hi, hN, hg, kk⟩ := h
    refine ⟨_, (pss_cons (ps_set (i := 3) sc_read_one.nd rfl (Or.inl rfl) (pe_m0 K (pv 0) (ok_Reader_shown S) (hr.mono (by omega))))
      (pss_cons (ps_if (pt_cmpR op_eq (pv 3) pe_str (nomark _))
      (pss_one (ps_ret (pe_hS (ok_read_bracket S) (hr.mono (by omega)) rfl (takes_of rfl rfl rfl rfl) (pa_cons (pv 0) (pa_cons (pv 1) (pa_cons (pv 2) pa_nil)))))) pss_nil)
      (pss_cons (ps_if (pt_cmpR (inS K) (pv 3) (pe_gr (g_NUMBERS S) rfl) (by rfl))
      (pss_one (ps_ret (pe_hS (ok_read_so_many S) (hr.mono (by omega)) rfl (takes_of rfl rfl rfl rfl) (pa_cons (pv 0) (pa_cons (pv 1) pa_nil))))) pss_nil)
      (pss_cons (ps_if (pt_cmpR op_eq (pv 3) pe_str (nomark _))
      (pss_cons (ps_expr (pe_m0 K (pv 0) (ok_Reader_go_on S) (hr.mono (by omega))))
      (pss_one (ps_ret (pe_h (ok_anybody_rule S) (hr.mono (by omega)) rfl (pa_cons (pe_callB (cLen K) (by rfl) (n_len S) PySem.boot_len (pa_cons (pv 1) pa_nil)) pa_nil))))) pss_nil)
      (pss_cons (ps_if (pt_cmpR op_eq (pv 3) pe_str (nomark _))
      (pss_cons (ps_expr (pe_m0 K (pv 0) (ok_Reader_go_on S) (hr.mono (by omega))))
      (pss_one (ps_ret (pe_h (ok_nobody_rule S) (hr.mono (by omega)) rfl (pa_cons (pe_callB (cLen K) (by rfl) (n_len S) PySem.boot_len (pa_cons (pv 1) pa_nil)) pa_nil))))) pss_nil)
      (pss_one (ps_ret (pe_h (ok_officer_rule S) (hr.mono (by omega)) rfl (pa_cons (pv 1) (pa_cons (pe_hS (ok_read_officer S) (hr.mono (by omega)) rfl (takes_of rfl rfl rfl rfl) (pa_cons (pv 0) (pa_cons (pv 1) pa_nil))) pa_nil)))))))))), ?_⟩
    obtain ⟨g, rfl⟩ : ∃ g', g = g' + 1 := ⟨g - 1, by omega⟩
    obtain ⟨wd, hw, hpl, hdr⟩ := ws_at hi
    have hne : ∀ k : List Nat, k ≠ [] → wd.2 = k → (cut 0 t).drop i = wd :: (cut 0 t).drop (i + 1) ∧ i < (cut 0 t).length := fun k hk z => by
      rcases hdr with h | ⟨_, h, _⟩
      · exact h
      · rw [h] at z
        exact absurd z.symm hk
    have h6 : count f ≤ 6 := hN.2.few
    refine q_asg (ev_shown hR hw rfl) fun H1 e1 => ?_
    have hR1 := hR.ex e1
    refine q_when (b := decide (wd.2 = [40])) (et_is (et_test (ev_op (ev_var rfl) (ev_is ev_c (congrArg V.str (by decide +kernel : ("(" : Str) = st [40]))) (rv_eq rfl))) (by rw [dec_st, spl_one (by decide)])) (fun hb1 H2 e2 => ?_) fun hb1 H2 e2 => ?_
    · have h40 := of_decide_eq_true hb1
      obtain ⟨hd1, hil⟩ := hne _ (by simp) h40
      have hR2 := hR1.ex e2
      have e12 : Ex H H2 := e1.trans e2
      refine ⟨_, rfl, _, rfl, _, rfl, r, a, t, i, g, f, b, wd, rfl, hb, hR2, ht, hil, hN.ex e12, hw, by omega, ?_⟩
      rw [hd1, show wd = (wd.1, [40]) from by rw [← h40], one_brk] at kk
      exact kk.mono (Ex.b e12) hR.there hR2.there (Nat.le_refl _)
    have h40 := of_decide_eq_false hb1
    have htu : SqT K H2 (He.ga K "NUMBERS") (nmsV digs) := by rw [show digs = [[49], [50], [51], [52], [53], [54]] from rfl, ← numbers (K := K)]; exact tu_NUMBERS S H2
    refine q_when (b := digs.contains wd.2) (et_is (et_test (ev_op (ev_var rfl) ev_c (rv_isT htu rfl (nms_flat _)))) (by rw [inV_nms, digs_spl])) (fun hb2 H3 e3 => ?_) fun hb2 H3 e3 => ?_
    · obtain ⟨m, m0, m6, hm⟩ := (digs_iff _).mp hb2
      obtain ⟨hd1, hil⟩ := hne _ (by simp) hm
      have e13 : Ex H H3 := (e1.trans e2).trans e3
      have hR3 := hR.ex e13
      have hwd : wd = (wd.1, [48 + m]) := by rw [← hm]
      refine ⟨_, rfl, _, rfl, r, a, t, i, m, f, wd.1, rfl, hR3, ht, hil, hN.ex e13, by rw [hw, ← hwd], m0, m6, ?_⟩
      rw [hd1, hwd, one_dig m0 m6] at kk
      exact kk.mono (Ex.b e13) hR.there hR3.there (Nat.le_refl _)
    have e13 : Ex H H3 := (e1.trans e2).trans e3
    have hR3 := hR.ex e13
    refine q_when (b := decide (wd.2 = W "anybody")) (et_is (et_test (ev_op (ev_var rfl) (ev_is ev_c (congrArg V.str (by decide +kernel : ("anybody" : Str) = st (W "anybody")))) (rv_eq rfl))) (by rw [dec_st, spl_one (by decide +kernel)])) (fun hb3 H4 e4 => ?_) fun hb3 H4 e4 => ?_
    · have h3 := of_decide_eq_true hb3
      obtain ⟨hd1, hil⟩ := hne _ (by decide +kernel) h3
      have hR4 := hR3.ex e4
      refine q_goon hR4 rfl fun H5 e5 hR5 => ?_
      have eb5 : ExB r H H5 := (Ex.b (e13.trans e4)).trans e5
      have hN5 := hR.names hN eb5
      refine ev_count hN5 (ev_var rfl) H5 (Ex.refl H5) _ fun H6 e6 => ⟨f, rfl, h6, fun p H7 hp e7 hA => ?_⟩
      rw [hd1, show wd = (wd.1, W "anybody") from by rw [← h3], one_any] at kk
      exact kk.ok .anybody _ rfl p H7 (i + 1) (eb5.fresh hR.there (fresh_back e6 hp) hR5.there) (eb5.trans (Ex.b (e6.trans e7))) (hR5.ex (e6.trans e7)) (by omega) hil rfl hA trivial (by show 20 ≤ _; omega)
    have h3 := of_decide_eq_false hb3
    have hR4 := hR3.ex e4
    refine q_when (b := decide (wd.2 = W "nobody")) (et_is (et_test (ev_op (ev_var rfl) (ev_is ev_c (congrArg V.str (by decide +kernel : ("nobody" : Str) = st (W "nobody")))) (rv_eq rfl))) (by rw [dec_st, spl_one (by decide +kernel)])) (fun hb4 H5 e5 => ?_) fun hb4 H5 e5 => ?_
    · have h4 := of_decide_eq_true hb4
      obtain ⟨hd1, hil⟩ := hne _ (by decide +kernel) h4
      have hR5 := hR4.ex e5
      refine q_goon hR5 rfl fun H6 e6 hR6 => ?_
      have eb6 : ExB r H H6 := (Ex.b ((e13.trans e4).trans e5)).trans e6
      have hN6 := hR.names hN eb6
      refine ev_count hN6 (ev_var rfl) H6 (Ex.refl H6) _ fun H7 e7 => ⟨f, rfl, h6, fun p H8 hp e8 hA => ?_⟩
      rw [hd1, show wd = (wd.1, W "nobody") from by rw [← h4], one_nob] at kk
      exact kk.ok .nobody _ rfl p H8 (i + 1) (eb6.fresh hR.there (fresh_back e7 hp) hR6.there) (eb6.trans (Ex.b (e7.trans e8))) (hR6.ex (e7.trans e8)) (by omega) hil rfl hA trivial (by show 20 ≤ _; omega)
    have h4 := of_decide_eq_false hb4
    have e15 : Ex H H5 := (e13.trans e4).trans e5
    have hR5 := hR4.ex e5
    have hX : oneIn f t.length (g + 1) d ((cut 0 t).drop i) = (officerIn f t.length ((cut 0 t).drop i) >>= fun z => pure (.who z.1, z.2)) := by
      rcases hdr with ⟨h, _⟩ | ⟨h, _, _⟩
      · rw [h]
        refine one_else hN.2 h40 h3 h4 fun m m0 m6 hm => ?_
        have := (digs_iff wd.2).mpr ⟨m, m0, m6, hm⟩
        rw [hb2] at this
        cases this
      · rw [h]
        conv => lhs; unfold Vbpxaf.oneIn
        rfl
    refine ⟨_, rfl, c_read rfl rfl hR5 ht hi (hN.ex e15) (fun n hn => RaisedB.mono (kk.err n ?_) (Ex.b e15) hR.there hR5.there) fun n ho hil hnc H6 e6 hR6 => ?_⟩
    · rw [hX, hn]
      rfl
    · have eb6 : ExB r H H6 := (Ex.b e15).trans e6
      refine ⟨a, f, n, rfl, hR.names hN eb6, hnc, fun p H7 hp e7 hA => ?_⟩
      exact kk.ok (.who n) _ (by rw [hX, ho]; rfl) p H7 (i + 1) (eb6.fresh hR.there hp hR6.there) (eb6.trans (Ex.b e7)) (hR6.ex e7) (by omega) hil rfl hA hnc (by show 20 ≤ _; omega)
end
end CK
/-! weights.py: the search -/
namespace CK
open PySem PySem.Spec PyProof.Rows L2 Evl
open Vbpxaf (bit members sized fact weigh rows)
section
variable {P : Program} {w : World} {K : PySem.W.Frag} {mg : Str → Option Value} {base : Heap}
def nmSearch : List Str := ["least", "forbidden", "officers", "most"]
theorem search3 (x y z : V) : putF "officers" z (putF "forbidden" y (putF "least" x [])) = ([("least", x), ("forbidden", y), ("officers", z)] : List (Str × V)) := by
  have e1 : putF "forbidden" y (putF "least" x []) = ([("least", x), ("forbidden", y)] : List (Str × V)) := (put_past (by decide +kernel)).trans rfl
  rw [e1]
  exact (put_past (by decide +kernel)).trans (congrArg _ ((put_past (by decide +kernel)).trans rfl))
theorem searchF (x y z u : V) : putF "most" u (putF "officers" z (putF "forbidden" y (putF "least" x []))) = nmSearch.zip [x, y, z, u] := by
  rw [search3]
  exact (put_past (by decide +kernel)).trans (congrArg _ ((put_past (by decide +kernel)).trans (congrArg _ ((put_past (by decide +kernel)).trans rfl))))
theorem sea_least (x y z u : V) : (nmSearch.zip [x, y, z, u]).lookup ("least" : Str) = some x := lk_here
theorem sea_forb (x y z u : V) : (nmSearch.zip [x, y, z, u]).lookup ("forbidden" : Str) = some y := (lk_past (by decide +kernel)).trans lk_here
theorem sea_off (x y z u : V) : (nmSearch.zip [x, y, z, u]).lookup ("officers" : Str) = some z := (lk_past (by decide +kernel)).trans ((lk_past (by decide +kernel)).trans lk_here)
theorem sea_most (x y z u : V) : (nmSearch.zip [x, y, z, u]).lookup ("most" : Str) = some u := (lk_past (by decide +kernel)).trans ((lk_past (by decide +kernel)).trans ((lk_past (by decide +kernel)).trans lk_here))
theorem sea_no (x y z u : V) : (nmSearch.zip [x, y, z, u]).lookup ("first_behind" : Str) = none := (lk_past (by decide +kernel)).trans ((lk_past (by decide +kernel)).trans ((lk_past (by decide +kernel)).trans ((lk_past (by decide +kernel)).trans rfl)))
theorem ok_Search (S : Top K mg) : HasC P w K mg base "Search" 1 P_Search_init (sp_rec K "Search" nmSearch) := by
  refine hasC_of (g_Search S) (mk_Search S) (fn_Search_init S) sc_Search_init bi_Search_init (fun vs H Q E h => ?_) (fun cdv A outer s H vs Q E hr h => ?_)
  · obtain ⟨p, dx, vals, rfl, hl, _⟩ := h
    show vals.length + 1 = 5
    rw [hl]
    rfl
  · obtain ⟨p, dx, vals, rfl, hl, hp, k⟩ := h
    obtain ⟨x, y, z, u, rfl⟩ : ∃ x y z u, vals = [x, y, z, u] := by
      match vals, hl with
      | [x, y, z, u], _ => exact ⟨x, y, z, u, rfl⟩
    refine ⟨_, (pss_cons (ps_f K (pv 0) (pv 1))
      (pss_cons (ps_f K (pv 0) (pv 2))
      (pss_cons (ps_f K (pv 0) (pv 3))
      (pss_one (ps_f K (pv 0) (pv 4)))))), ?_⟩
    refine ⟨_, rfl, _, rfl, p, _, dx, [], rfl, hp, cl_Search S, na_Search_least S, by simp, ?_⟩
    refine ⟨_, rfl, _, rfl, p, _, dx, _, rfl, upd_same, cl_Search S, na_Search_forbidden S, by simp [putF], ?_⟩
    refine ⟨_, rfl, _, rfl, p, _, dx, _, rfl, upd_same, cl_Search S, na_Search_officers S, ?_, ?_⟩
    · have e1 : putF "forbidden" y (putF "least" x []) = ([("least", x), ("forbidden", y)] : List (Str × V)) := (put_past (by decide +kernel)).trans rfl
      rw [e1]
      simp
    refine ⟨_, rfl, _, rfl, p, _, dx, _, rfl, upd_same, cl_Search S, na_Search_most S, ?_, ?_⟩
    · rw [search3]
      simp
    · rw [upd_upd, upd_upd, upd_upd, searchF]
      exact k
def SearchAt (K : PySem.W.Frag) (H : Hp) (p : Addr) (ls fs : List Nat) (n m : Nat) : Prop := ∃ dx la fa, H p = some (.ins (He.ga K "Search") dx (nmSearch.zip [.ref la, .ref fa, .int (n : Int), .int (m : Int)])) ∧ SqL K H la (nats ls) ∧ SqL K H fa (nats fs)
theorem SearchAt.ex {H H' : Hp} {p : Addr} {ls fs : List Nat} {n m : Nat} (h : SearchAt K H p ls fs n m) (e : Ex H H') : SearchAt K H' p ls fs n m := by
  obtain ⟨dx, la, fa, h1, h2, h3⟩ := h
  exact ⟨dx, la, fa, e _ _ h1, ex_l e h2, ex_l e h3⟩
/-- companies of six officers, at most all of them -/
def Comps (l : List Nat) : Prop := l.length ≤ 64 ∧ ∀ c ∈ l, c < 64
/-- what a search comes to -/
def Seeks (r : Option (List Nat)) (H : Hp) (Q : VK) : Prop := (r = none → RetV .non H Q) ∧ ∀ ws, r = some ws → ∀ q H2, Ex H H2 → H2 q = some (.lst (nats ws)) → Q (.ref q) H2
theorem Seeks.ex {r : Option (List Nat)} {H H1 : Hp} {Q : VK} (h : Seeks r H Q) (e : Ex H H1) : Seeks r H1 Q := ⟨fun z H2 e2 => h.1 z H2 (e.trans e2), fun ws hw q H2 e2 h2 => h.2 ws hw q H2 (e.trans e2) h2⟩
def sp_seek (K : PySem.W.Frag) (kmax : Nat) : Sp := fun vs H Q _ => ∃ (p bl tl ol : Addr) (ls fs b : List Nat) (n m k : Nat), vs = [.ref p, .ref bl, .ref tl, .ref ol] ∧ k ≤ kmax ∧ SearchAt K H p ls fs n m ∧ H bl = some (.lst (nats b)) ∧ b.length + k = n ∧ n ≤ 6 ∧ m ≤ 5 ∧
  SqL K H tl (nats (ls.map (wtop m b k))) ∧ SqL K H ol (nats (fs.map (weigh b))) ∧ Comps ls ∧ Comps fs ∧ Seeks (seekW ls fs m k b) H Q
def spSeek (K : PySem.W.Frag) : Nat → Sp
  | 0 => sp_none
  | k + 1 => sp_seek K k
theorem okW_more (ls fs b : List Nat) (m k : Nat) : ((ls.map (wtop m b k)).all fun x => (fs.map (weigh b)).all fun y => decide (y < x)) = okW ls fs m b k := by
  unfold okW
  rw [List.all_map]
  congr 1
  funext a
  show (fs.map (weigh b)).all _ = _
  rw [List.all_map]
  rfl
theorem some_first {α : Type} {f : Nat → Option α} {n x : Nat} {y : α} (hx : x < n) (h : ∀ z, z < x → f z = none) (hy : f x = some y) : (List.range n).findSome? f = some y := by
  have e : List.range n = List.range x ++ (x :: (List.range' (x + 1) (n - x - 1))) := by
    rw [List.range_eq_range', List.range_eq_range', ← List.range'_succ]
    have h0 := List.range'_append_1 (s := 0) (m := x) (n := n - x - 1 + 1)
    rw [Nat.zero_add] at h0
    rw [h0]
    congr 1
    omega
  rw [e, List.findSome?_append]
  have h1 : (List.range x).findSome? f = none := List.findSome?_eq_none_iff.mpr fun z hz => h z (List.mem_range.mp hz)
  rw [h1, List.findSome?_cons, hy]
  rfl
theorem some_none {α : Type} {f : Nat → Option α} {n : Nat} (h : ∀ z, z < n → f z = none) : (List.range n).findSome? f = none := List.findSome?_eq_none_iff.mpr fun z hz => h z (List.mem_range.mp hz)
theorem el_catR {σ : L2.St} {H : Hp} {ta tb : TE} {xs ys : List V} {a : Addr} (h1 : Ev ta σ H (.ref a)) (h3 : H a = some (.lst xs)) (h2 : EvL tb σ H ys) (hz : xs.length + ys.length ≤ 16777216) : EvL (tOp rCat ta tb) σ H (xs ++ ys) := fun H1 e1 Q q =>
  h1 H1 e1 _ fun H2 e2 => h2 H2 (e1.trans e2) _ fun b H3 hb e3 h4 => ⟨a, b, xs, ys, rfl, rfl, ((e1.trans e2).trans e3) _ _ h3, h4, by rw [sizeLine_eq]; omega, fun p hp => q p _ (fresh_back (e2.trans e3) hp) ((e2.trans e3).trans (Ex.new hp)) upd_same⟩
theorem seek_of (S : Top K mg) (kmax : Nat) (ok_Search_first_behind : ∀ S : Top K mg, HasM P w K mg base CX0 "Search" "first_behind" (kmax + 2) P_Search_first_behind (spSeek K kmax)) : HasM P w K mg base CX0 "Search" "first_behind" (kmax + 3) P_Search_first_behind (sp_seek K kmax) := by
  refine hasM_of (cl_Search S) (me_Search_first_behind S) (fn_Search_first_behind S) sc_Search_first_behind bi_Search_first_behind (fun vs H Q E h => ?_) (fun cdv A outer s H vs Q E hr h => ?_)
  · obtain ⟨p, bl, tl, ol, ls, fs, b, n, m, k, rfl, _⟩ := h
    rfl
  · obtain ⟨p, bl, tl, ol, ls, fs, b, n, m, k, rfl, hk, hS, hB, hbk, hn, hm, hT, hO, cl, cf, kk⟩ := h
    refine ⟨_, (pss_cons (ps_if (pt_not (pt_val (pe_h (ok_all_weigh_more S) (hr.mono (by omega)) rfl (pa_cons (pv 2) (pa_cons (pv 3) pa_nil)))))
      (pss_one (ps_ret pe_non)) pss_nil)
      (pss_cons (ps_set (i := 4) sc_Search_first_behind.nd rfl (Or.inl rfl) (pe_callB (cLen K) (by rfl) (n_len S) PySem.boot_len (pa_cons (pv 1) pa_nil)))
      (pss_cons (ps_if (pt_cmpR op_eq (pv 4) (pe_f K (pv 0)) (nomark _))
      (pss_one (ps_ret (pv 1))) pss_nil)
      (pss_cons (ps_for PassesOwn.never rfl (pi_range1 (by rfl) (n_range S) (pa_cons (pe_op op_add (pe_f K (pv 0)) pe_int) pa_nil)) (pg_name (i := 5) sc_Search_first_behind.nd rfl (Or.inl rfl))
      (pss_cons (ps_set (i := 6) sc_Search_first_behind.nd rfl (Or.inl rfl) (pe_h (ok_moved S) (hr.mono (by omega)) rfl (pa_cons (pe_f K (pv 0)) (pa_cons (pv 2) (pa_cons (pv 4) (pa_cons (pe_op op_sub (pv 5) (pe_f K (pv 0))) pa_nil))))))
      (pss_cons (ps_set (i := 7) sc_Search_first_behind.nd rfl (Or.inl rfl) (pe_h (ok_moved S) (hr.mono (by omega)) rfl (pa_cons (pe_f K (pv 0)) (pa_cons (pv 3) (pa_cons (pv 4) (pa_cons (pv 5) pa_nil))))))
      (pss_cons (ps_set (i := 8) sc_Search_first_behind.nd rfl (Or.inl rfl) (pe_m K (pv 0) (ok_Search_first_behind S) (hr.mono (by omega)) (pa_cons (pe_op op_cat (pv 1) (pe_lst (pa_cons (pv 5) pa_nil))) (pa_cons (pv 6) (pa_cons (pv 7) pa_nil)))))
      (pss_one (ps_if (pt_cmpR op_notN (pv 8) pe_non (nomark _))
      (pss_one (ps_ret (pv 8))) pss_nil))))))
      (pss_one (ps_ret pe_non)))))), ?_⟩
    have hT' := hT
    have hO' := hO
    rw [intsV_nats] at hT' hO'
    refine q_when (b := !okW ls fs m b k) (et_not (et_B (ev_h (ea_cons (ev_var rfl) (ea_cons (ev_var rfl) ea_nil)) fun H1 e1 Q E q => ⟨tl, ol, _, _, rfl, ex_l e1 hT', ex_l e1 hO', by simpa using cl.1, by simpa using cf.1, nn_map _, by rw [moreB_nats, okW_more]; exact q⟩))) (fun hb H1 e1 => ?_) fun hb H1 e1 => ?_
    · have e : seekW ls fs m k b = none := by
        have hf : ¬ okW ls fs m b k = true := by simpa using hb
        cases k with
        | zero => exact if_neg hf
        | succ k => exact if_neg hf
      exact s_ret ev_c fun H2 e2 => kk.1 e H2 (e1.trans e2)
    have hok : okW ls fs m b k = true := by simpa using hb
    refine q_asg (v := .int (b.length : Nat)) (ev_is (ev_len (ev_var rfl) (sq_of (e1 _ _ hB))) (by rw [nats_len])) fun H2 e2 => ?_
    have e12 := e1.trans e2
    obtain ⟨dx, la, fa, hp, hla, hfa⟩ := id (hS.ex e12)
    refine q_when (b := decide (k = 0)) (et_is (et_test (ev_op (ev_var rfl) (ev_fld (ev_var rfl) hp (cl_Search S) (na_Search_officers S) (sea_off _ _ _ _)) (rv_eq rfl))) (decide_eq_decide.mpr ⟨fun z => by injection z with z; omega, fun z => by subst z; exact congrArg V.int (by omega)⟩)) (fun hk0 H3 e3 => ?_) fun hk0 H3 e3 => ?_
    · have hk0' := of_decide_eq_true hk0
      subst hk0'
      have e : seekW ls fs m 0 b = some b := if_pos hok
      exact s_ret (ev_var rfl) fun H4 e4 => kk.2 b e bl H4 ((e12.trans e3).trans e4) (e4 _ _ (e3 _ _ (e12 _ _ hB)))
    have hk0' := of_decide_eq_false hk0
    obtain ⟨k, rfl⟩ : ∃ k', k = k' + 1 := ⟨k - 1, by omega⟩
    obtain ⟨km, rfl⟩ : ∃ k', kmax = k' + 1 := ⟨kmax - 1, by omega⟩
    have e13 := e12.trans e3
    have hseek : seekW ls fs m (k + 1) b = (List.range (m + 1)).findSome? fun x => seekW ls fs m k (b ++ [x]) := if_pos hok
    refine q_forR1 (n := (m : Int) + 1) (ea_cons (ev_op (ev_fld (ev_var rfl) (e3 _ _ hp) (cl_Search S) (na_Search_most S) (sea_most _ _ _ _)) ev_c rv_I0) ea_nil) ⟨by omega, by omega⟩
      (fun x σ' H' => ∃ u1 u2 u3 u4, σ' = [some (.ref p), some (.ref bl), some (.ref tl), some (.ref ol), some (.int (b.length : Nat)), u1, u2, u3, u4] ∧ Ex H H' ∧ ∀ z, z < x → seekW ls fs m k (b ++ [z]) = none)
      (fun H4 e4 => ⟨none, none, none, none, rfl, e13.trans e4, fun z hz => absurd hz (by omega)⟩) ?_ ?_
    · rintro x σ' H' hx ⟨u1, u2, u3, u4, rfl, e4, hprev⟩
      obtain ⟨dx4, la4, fa4, hp4, hla4, hfa4⟩ := id (hS.ex e4)
      have hT4 := ex_l e4 hT'
      have hO4 := ex_l e4 hO'
      rw [List.map_map] at hT4 hO4
      refine q_asgL (el_h (vs := [.ref la4, .ref tl, .int (b.length : Nat), .int ((x : Int) - (m : Int))]) (ea_cons (ev_fld (ev_var rfl) hp4 (cl_Search S) (na_Search_least S) (sea_least _ _ _ _)) (ea_cons (ev_var rfl) (ea_cons (ev_var rfl) (ea_cons (ev_op (ev_var rfl) (ev_fld (ev_var rfl) hp4 (cl_Search S) (na_Search_most S) (sea_most _ _ _ _)) rv_I0) ea_nil)))) fun H5 e5 Q E q => ⟨la4, tl, ls, fun c => ((wtop m b (k + 1) c : Nat) : Int), b.length, (x : Int) - (m : Int), rfl, ex_l e5 hla4, ex_l e5 hT4, cl.1, by omega, cl.2, q⟩) fun t2 H5 ht2 e5 h5 => ?_
      have hp5 := e5 _ _ hp4
      refine q_asgL (el_h (vs := [.ref fa4, .ref ol, .int (b.length : Nat), .int (x : Int)]) (ea_cons (ev_fld (ev_var rfl) hp5 (cl_Search S) (na_Search_forbidden S) (sea_forb _ _ _ _)) (ea_cons (ev_var rfl) (ea_cons (ev_var rfl) (ea_cons (ev_var rfl) ea_nil)))) fun H6 e6 Q E q => ⟨fa4, ol, fs, fun c => ((weigh b c : Nat) : Int), b.length, (x : Int), rfl, ex_l (e5.trans e6) hfa4, ex_l (e5.trans e6) hO4, cf.1, by omega, cf.2, q⟩) fun o2 H6 ho2 e6 h6 => ?_
      have hx' : x ≤ m := by omega
      have ht : H6 t2 = some (.lst (nats (ls.map (wtop m (b ++ [x]) k)))) := by
        rw [e6 _ _ h5, intsV_nats, List.map_map]
        refine congrArg (fun l => some (HO.lst (intsV l))) (List.map_congr_left fun c _ => ?_)
        show _ = ((wtop m (b ++ [x]) k c : Nat) : Int)
        rw [wtop_step]
        dsimp only
        split <;> omega
      have ho : H6 o2 = some (.lst (nats (fs.map (weigh (b ++ [x]))))) := by
        rw [h6, intsV_nats, List.map_map]
        refine congrArg (fun l => some (HO.lst (intsV l))) (List.map_congr_left fun c _ => ?_)
        show _ = ((weigh (b ++ [x]) c : Nat) : Int)
        rw [weigh_snoc]
        dsimp only
        split <;> omega
      have e46 := (e4.trans e5).trans e6
      refine q_set ⟨_, rfl, p, dx4, _, rfl, e6 _ _ hp5, sea_no _ _ _ _, ?_⟩
      refine el_catR (xs := nats b) (ys := [.int (x : Int)]) (ev_var rfl) (e46 _ _ hB) (el_lst (ea_cons (ev_var rfl) ea_nil) (by simp)) (by rw [nats_len]; simp; omega) H6 (Ex.refl H6) _ fun nb H7 hnb e7 h7 => ⟨_, rfl, _, rfl, ?_⟩
      have e47 := e46.trans e7
      have hnb7 : H7 nb = some (.lst (nats (b ++ [x]))) := by
        rw [h7]
        unfold nats
        rw [List.map_append]
        rfl
      refine ⟨p, nb, t2, o2, ls, fs, b ++ [x], n, m, k, rfl, by omega, hS.ex e47, hnb7, by simp; omega, hn, hm, sq_of (e7 _ _ ht), sq_of (e7 _ _ ho), cl, cf, fun hnone H8 e8 => ?_, fun ws hws q H8 e8 h8 => ?_⟩
      · refine s_when (b := false) (et_is (et_test (ev_op (ev_var rfl) ev_c rv_notN)) rfl) (fun hf => by cases hf) fun _ H9 e9 => ⟨_, _, _, _, rfl, (e47.trans e8).trans e9, fun z hz => ?_⟩
        rcases Nat.lt_succ_iff_lt_or_eq.mp hz with h1 | rfl
        · exact hprev z h1
        · exact hnone
      · refine s_when (b := true) (et_is (et_test (ev_op (ev_var rfl) ev_c rv_notN)) rfl) (fun _ H9 e9 => ?_) fun hf => by cases hf
        refine s_ret (ev_var rfl) fun H10 e10 => kk.2 ws ?_ q H10 (((e47.trans e8).trans e9).trans e10) (e10 _ _ (e9 _ _ h8))
        rw [hseek]
        exact some_first (by omega) hprev hws
    · rintro σ' H' ⟨u1, u2, u3, u4, rfl, e4, hprev⟩
      refine s_ret ev_c fun H5 e5 => kk.1 ?_ H5 (e4.trans e5)
      rw [hseek]
      exact some_none fun z hz => hprev z (by omega)
theorem seek_none (S : Top K mg) : HasM P w K mg base CX0 "Search" "first_behind" 2 P_Search_first_behind sp_none := by
  refine hasM_of (k := 1) (cl_Search S) (me_Search_first_behind S) (fn_Search_first_behind S) sc_Search_first_behind bi_Search_first_behind (fun vs H Q E h => h.elim) (fun cdv A outer s H vs Q E hr h => h.elim)
theorem seek_ok (S : Top K mg) : ∀ k, HasM P w K mg base CX0 "Search" "first_behind" (k + 3) P_Search_first_behind (sp_seek K k)
  | 0 => seek_of S 0 fun S => seek_none S
  | k + 1 => seek_of S (k + 1) fun S => seek_ok S k
theorem ok_Search_first_behind (S : Top K mg) : HasM P w K mg base CX0 "Search" "first_behind" 9 P_Search_first_behind (sp_seek K 6) := seek_ok S 6
def sp_first_weights (K : PySem.W.Frag) : Sp := fun vs H Q _ => ∃ (la fa : Addr) (ls fs : List Nat) (n m : Nat), vs = [.ref la, .ref fa, .int (n : Int), .int (m : Int)] ∧ SqL K H la (nats ls) ∧ SqL K H fa (nats fs) ∧ n ≤ 6 ∧ m ≤ 5 ∧ Comps ls ∧ Comps fs ∧ Seeks ((rows n m).find? (partsL ls fs)) H Q
theorem ok_first_weights (S : Top K mg) : Has P w K mg base CX0 "first_weights" 10 P_first_weights (sp_first_weights K) := by
  refine has_of (g_first_weights S) (fn_first_weights S) sc_first_weights bi_first_weights (fun vs H Q E h => ?_) (fun cdv A outer s H vs Q E hr h => ?_)
  · obtain ⟨la, fa, ls, fs, n, m, rfl, _⟩ := h
    rfl
  · obtain ⟨la, fa, ls, fs, n, m, rfl, hA, hB, hn, hm, cl, cf, kk⟩ := h
    refine ⟨_, (pss_cons (ps_set (i := 4) sc_first_weights.nd rfl (Or.inl rfl) (pe_mkK K (ok_Search S) (hr.mono (by omega)) rfl (pa_cons (pv 0) (pa_cons (pv 1) (pa_cons (pv 2) (pa_cons (pv 3) pa_nil))))))
      (pss_cons (ps_setLc (i := 5) (own := [("company", 6)]) rfl sc_first_weights.nd rfl rfl (sw_true rfl rfl rfl (by decide +kernel)) (piL K (pv 0)) (blkOk_by (own := [("company", 6)]) (N := N_first_weights) (sc := defScope s_first_weights) (by decide +kernel)) (fun _ _ _ _ _ => (pg_name (i := 6) sc_first_weights.nd rfl (Or.inl rfl))) (fun _ _ _ _ _ => pts_nil) (fun _ _ _ _ _ => (pe_op op_mul (pv 3) (pe_h (ok_size S) (hr.mono (by omega)) rfl (pa_cons (pv 6) (pa_cons (pv 2) pa_nil))))))
      (pss_one (ps_ret (pe_m K (pv 4) (ok_Search_first_behind S) (hr.mono (by omega)) (pa_cons (pe_lst pa_nil) (pa_cons (pv 5) (pa_cons (pe_lc (own := [("company", 6)]) rfl sc_first_weights.nd (piL K (pv 1)) (blkOk_by (own := [("company", 6)]) (N := N_first_weights) (sc := defScope s_first_weights) (by decide +kernel)) (fun _ _ _ _ _ => (pg_name (i := 6) sc_first_weights.nd rfl (Or.inl rfl))) (fun _ _ _ _ _ => pts_nil) (fun _ _ _ _ _ => pe_int)) pa_nil)))))))), ?_⟩
    refine q_asgR (er_mk (ea_cons (ev_var rfl) (ea_cons (ev_var rfl) (ea_cons (ev_var rfl) (ea_cons (ev_var rfl) ea_nil)))) rfl) fun p dx H1 hp e1 h1 => ?_
    have hS : SearchAt K H1 p ls fs n m := ⟨dx, la, fa, h1, ex_l e1 hA, ex_l e1 hB⟩
    refine q_asgL (xs := nats (ls.map (wtop m [] n))) (el_is (el_lcL (fun _ => true) (fun i => V.int (wtop m [] n (ls.getD i 0) : Nat)) (ev_var rfl) (ex_l e1 hA) (by rw [nats_len]; have := cl.1; omega) (fun _ => rfl) (fun i x H2 e2 hi => et_yes) (fun i x H2 e2 hi _ => ?_)) ?_) fun tl H2 htl e2 h2 => ?_
    · obtain ⟨c, hc, rfl⟩ := nats_at hi
      rw [getD_of hc, wtop_nil]
      have := sized_le n c
      refine ev_is (ev_op (ev_var rfl) (ev_size (ev_var rfl) (ev_var rfl) (cl.2 c (List.mem_of_getElem? hc)) hn) (rv_I (.inl ⟨by omega, by omega⟩))) (congrArg V.int (Int.natCast_mul _ _).symm)
    · rw [nats_len, given_all 0 (fun c => V.int (wtop m [] n c : Nat))]
      unfold nats
      rw [List.map_map]
      rfl
    refine ⟨_, rfl, p, dx, _, rfl, e2 _ _ h1, sea_no _ _ _ _, ?_⟩
    refine el_lst (vs := []) ea_nil (by simp) H2 (Ex.refl H2) _ fun bl H3 hbl e3 h3 => ⟨_, rfl, ?_⟩
    refine el_is (ys := nats (fs.map (weigh []))) (el_lcL (fun _ => true) (fun i => V.int 0) (ev_var rfl) (ex_l (e1.trans (e2.trans e3)) hB) (by rw [nats_len]; have := cf.1; omega) (fun _ => rfl) (fun i x H4 e4 hi => et_yes) (fun i x H4 e4 hi _ => ev_c)) ?_ H3 (Ex.refl H3) _ fun ol H4 hol e4 h4 => ?_
    · rw [nats_len, given_all 0 (fun _ => V.int 0)]
      unfold nats
      rw [List.map_map]
      rfl
    have e14 : Ex H H4 := e1.trans (e2.trans (e3.trans e4))
    refine ⟨p, bl, tl, ol, ls, fs, [], n, m, n, rfl, hn, hS.ex (e2.trans (e3.trans e4)), e4 _ _ h3, by simp, hn, hm, sq_of ((e3.trans e4) _ _ h2), sq_of h4, cl, cf, ?_⟩
    rw [seekW_all]
    exact kk.ex e14
end
end CK
/-! trades.py -/
namespace CK
open PySem PySem.Spec PyProof.Rows L2 Evl
open Vbpxaf (bit members)
section
variable {P : Program} {w : World} {K : PySem.W.Frag} {mg : Str → Option Value} {base : Heap}
/-- the pairs whose first is one of the first i -/
def pairsTo (cs : List Nat) (i : Nat) : List (Nat × Nat) := (List.range i).flatMap fun j => (cs.drop j).map fun y => (cs.getD j 0, y)
theorem pairsTo_succ (cs : List Nat) (i : Nat) : pairsTo cs (i + 1) = pairsTo cs i ++ (cs.drop i).map fun y => (cs.getD i 0, y) := by
  unfold pairsTo
  rw [List.range_succ, List.flatMap_append]
  simp
theorem pairsTo_all : ∀ cs : List Nat, pairsTo cs cs.length = pairsN cs
  | [] => rfl
  | x :: l => by
    have ih := pairsTo_all l
    unfold pairsTo at ih ⊢
    rw [List.length_cons, List.range_succ_eq_map, List.flatMap_cons, List.flatMap_map]
    show _ ++ _ = pairsN (x :: l)
    rw [pairsN, ← ih]
    rfl
theorem pairs_len : ∀ {l : List Nat}, l.length ≤ 64 → (pairsN l).length ≤ 64 * l.length
  | [], _ => Nat.le_refl _
  | x :: l, h => by
    rw [List.length_cons] at h
    have := pairs_len (l := l) (by omega)
    rw [pairsN, List.length_append, List.length_map, List.length_cons]
    omega
theorem pairsTo_len {cs : List Nat} (hl : cs.length ≤ 64) : ∀ i, (pairsTo cs i).length ≤ 64 * i
  | 0 => Nat.le_refl _
  | i + 1 => by
    have := pairsTo_len hl i
    rw [pairsTo_succ, List.length_append, List.length_map, List.length_drop]
    omega
theorem pairs_snoc {H : Hp} {ps : List Addr} {s : Pairs} {p : Addr} {x : Nat × Nat} (h : Paired (PairAt H) ps s) (hp : PairAt H p x) : Paired (PairAt H) (ps ++ [p]) (s ++ [x]) := Paired.snoc h hp
def sp_pairs (K : PySem.W.Frag) : Sp := fun vs H Q _ => ∃ (a : Addr) (cs : List Nat), vs = [.ref a] ∧ SqL K H a (nats cs) ∧ cs.length ≤ 64 ∧ ∀ p H2, H p = none → Ex H H2 → PairsAt H2 p (pairsN cs) → Q (.ref p) H2
theorem cut_drop (cs : List Nat) {i : Nat} (h : i ≤ cs.length) : cutV (nats cs) (some (i : Int)) none = nats (cs.drop i) := by
  unfold cutV
  rw [HT.sIx_nat, HT.sIx_none, nats_len]
  unfold nats
  rw [List.map_drop, Nat.min_eq_left h, List.take_of_length_le]
  simp
theorem ok_pairs_of (S : Top K mg) : Has P w K mg base CX0 "pairs_of" 1 P_pairs_of (sp_pairs K) := by
  refine has_of (g_pairs_of S) (fn_pairs_of S) sc_pairs_of bi_pairs_of (fun vs H Q E h => ?_) (fun cdv A outer s H vs Q E hr h => ?_)
  · obtain ⟨a, cs, rfl, _⟩ := h
    rfl
  · obtain ⟨a, cs, rfl, hL, hz, k⟩ := h
    refine ⟨_, (pss_cons (ps_set (i := 1) sc_pairs_of.nd rfl (Or.inl rfl) (pe_lst pa_nil))
      (pss_cons (ps_for PassesOwn.never rfl (piE K (by rfl) (n_enumerate S) (pa_cons (pv 0) pa_nil)) (pgT K 2 (pgs_cons (pg_name (i := 2) sc_pairs_of.nd rfl (Or.inl rfl)) (pgs_cons (pg_name (i := 3) sc_pairs_of.nd rfl (Or.inl rfl)) pgs_nil)))
      (pss_one (ps_for PassesOwn.never rfl (piL K (pe_slice (slL K) (pv 0) (po_some (pv 2)) po_none)) (pg_name (i := 4) sc_pairs_of.nd rfl (Or.inl rfl))
      (pss_one (ps_expr (pe_bmK K PySem.F.plainAttrs_list PySem.F.slot_list_append PySem.F.type_list_append mt_append (pv 1) (pa_cons (pe_tup (pa_cons (pv 3) (pa_cons (pv 4) pa_nil))) pa_nil)))))))
      (pss_one (ps_ret (pv 1))))), ?_⟩
    refine q_asgL (el_lst ea_nil (by simp)) fun l H1 hl e1 h1 => ?_
    refine ⟨_, rfl, a, nats cs, rfl, ex_l e1 hL, ?_⟩
    refine for_it (walk_enum (K := K) (a := a) (xs := nats cs)) (fun i σ' H' => ∃ v1 v2 v3 ps, σ' = [some (.ref a), some (.ref l), v1, v2, v3] ∧ Ex H H' ∧ H' l = some (.lst (ps.map V.ref)) ∧ Paired (PairAt H') ps (pairsTo cs i))
      ⟨none, none, none, [], rfl, e1, h1, .nil⟩ (fun i σ' H' _ h => ?_) ?_ ?_
    · obtain ⟨v1, v2, v3, ps, _, e3, _⟩ := h
      exact ex_l e3 hL
    · rintro i x σ' H' H'' hi ⟨v1, v2, v3, ps, rfl, e3, hlst, hps⟩ ⟨T, x1, y, rfl, hT, rfl, hx1, hy⟩
      cases hx1
      obtain ⟨c, hc, rfl⟩ := nats_at hy
      rw [nats_len] at hi
      refine ⟨T, _, rfl, st_of upd_same, rfl, _, _, rfl, _, _, rfl, rfl, ?_⟩
      have e4 : Ex H' (upd H' T (.tup [.int ((i : Nat) : Int), .int ((c : Nat) : Int)])) := Ex.new hT
      have hlst4 := e4 _ _ hlst
      have hps4 : Paired (PairAt (upd H' T (.tup [.int ((i : Nat) : Int), .int ((c : Nat) : Int)]))) ps (pairsTo cs i) := L2.Paired.mapP hps fun _ _ z => e4 _ _ z
      have hL4 : SqL K (upd H' T (.tup [.int ((i : Nat) : Int), .int ((c : Nat) : Int)])) a (nats cs) := ex_l (e3.trans e4) hL
      have e34 := e3.trans e4
      generalize upd H' T (.tup [.int ((i : Nat) : Int), .int ((c : Nat) : Int)]) = H4 at e4 hlst4 hL4 hps4 e34 ⊢
      have hlen := pairsTo_len hz i
      refine s_forNL (xs := nats (cs.drop i)) (el_is (el_sl (ev_var rfl) (eo_some (ev_var rfl)) eo_none hL4) (cut_drop cs (by omega)))
        (fun q t σ' H' => ∃ v3 ps, σ' = [some (.ref a), some (.ref l), some (.int (i : Nat)), some (.int (c : Nat)), v3] ∧ Ex H H' ∧ q ≠ l ∧ H' q = some (.lst (nats (cs.drop i))) ∧ H' l = some (.lst (ps.map V.ref)) ∧ Paired (PairAt H') ps (pairsTo cs i ++ ((cs.drop i).take t).map fun y => (c, y)))
        (fun q H5 hq e5 h5 => ⟨_, ps, rfl, e34.trans e5, (fun z => by rw [z, hlst4] at hq; cases hq), h5, e5 _ _ hlst4, by rw [List.take_zero, List.map_nil, List.append_nil]; exact L2.Paired.mapP hps4 fun _ _ z => e5 _ _ z⟩)
        (fun q t σ' H' _ h => ?_) ?_ ?_
      · obtain ⟨v3, ps, _, _, _, h, _⟩ := h
        exact sq_of h
      · rintro q t x σ' H' hx ⟨v3, ps, rfl, e5, hql, hq, hlst5, hps5⟩
        obtain ⟨d, hd, rfl⟩ := nats_at hx
        have hlt := (List.getElem?_eq_some_iff.mp hd).1
        rw [List.length_drop] at hlt
        have hpl := paired_len hps5
        rw [List.length_append, List.length_map, List.length_take, List.length_drop] at hpl
        refine s_appU hlst5 (ev_var rfl) (eu_tup (ea_cons (ev_var rfl) (ea_cons (ev_var rfl) ea_nil)) (by simp)) (by rw [List.length_map]; omega) fun p H6 hp e6 h6 => ?_
        have lne : p ≠ l := fun z => by rw [z, hlst5] at hp; cases hp
        refine ⟨_, ps ++ [p], rfl, Ex.mut (e5.trans e6) hl, hql, by rw [upd_ne hql]; exact e6 _ _ hq, by rw [upd_same, List.map_append]; rfl, ?_⟩
        have et : ((cs.drop i).take (t + 1)).map (fun y => (c, y)) = ((cs.drop i).take t).map (fun y => (c, y)) ++ [(c, d)] := by
          rw [List.take_succ, hd, List.map_append]
          rfl
        rw [et, ← List.append_assoc]
        refine pairs_snoc (L2.Paired.mapP hps5 fun b x z => ?_) ?_
        · have bne : b ≠ l := fun y => by
            have z' : H' b = _ := z
            rw [y, hlst5] at z'
            cases z'
          show upd H6 l _ b = _
          rw [upd_ne bne]
          exact e6 _ _ z
        · show upd H6 l _ p = _
          rw [upd_ne lne]
          exact h6
      · rintro q σ' H' ⟨v3, ps, rfl, e5, hql, hq, hlst5, hps5⟩
        refine ⟨_, _, _, ps, rfl, e5, hlst5, ?_⟩
        rw [nats_len, List.take_length] at hps5
        rw [pairsTo_succ, getD_of hc]
        exact hps5
    · rintro σ' H' ⟨v1, v2, v3, ps, rfl, e3, hlst, hps⟩
      rw [nats_len, pairsTo_all] at hps
      exact s_ret (ev_var rfl) fun H4 e4 => k l H4 hl (e3.trans e4) ⟨ps, e4 _ _ hlst, L2.Paired.mapP hps fun _ _ z => e4 _ _ z⟩
/-! ### who stands in both, and who in one -/
theorem and_nat : ∀ c : Fin 64, ∀ d : Fin 64, Builtin.bitAnd ((c.val : Nat) : Int) ((d.val : Nat) : Int) = ((c.val &&& d.val : Nat) : Int) := by decide +kernel
def kN (k : Nat × Nat) : List L2.Key := [Sum.inl ((k.1 : Nat) : Int), Sum.inl ((k.2 : Nat) : Int)]
def kTup (k : Nat × Nat) : List V := [.int ((k.1 : Nat) : Int), .int ((k.2 : Nat) : Int)]
theorem kN_tup (k : Nat × Nat) : (kN k).map kV = kTup k := rfl
theorem kN_inj {j k : Nat × Nat} (h : kN j = kN k) : j = k := by
  unfold kN at h
  simp only [List.cons.injEq, Sum.inl.injEq, and_true] at h
  obtain ⟨a, b⟩ := j
  obtain ⟨c, d⟩ := k
  obtain ⟨h1, h2⟩ := h
  dsimp only at h1 h2
  rw [Prod.mk.injEq]
  omega
def sp_together (K : PySem.W.Frag) : Sp := fun vs H Q _ => ∃ (p : Addr) (x : Nat × Nat), vs = [.ref p] ∧ PairAt H p x ∧ x.1 < 64 ∧ x.2 < 64 ∧ ∀ q H2, H q = none → Ex H H2 → H2 q = some (.tup (kTup (keyN x))) → Q (.ref q) H2
theorem ok_together (S : Top K mg) : Has P w K mg base CX0 "together" 1 P_together (sp_together K) := by
  refine has_of (g_together S) (fn_together S) sc_together bi_together (fun vs H Q E h => ?_) (fun cdv A outer s H vs Q E hr h => ?_)
  · obtain ⟨p, x, rfl, _⟩ := h
    rfl
  · obtain ⟨p, x, rfl, hp, h1, h2, k⟩ := h
    refine ⟨_, (pss_one (ps_ret (pe_tup (pa_cons (pe_op op_and (pe_ix (ixT K) (pv 0) pe_int (fun _ _ => rfl)) (pe_ix (ixT K) (pv 0) pe_int (fun _ _ => rfl))) (pa_cons (pe_op op_xor (pe_ix (ixT K) (pv 0) pe_int (fun _ _ => rfl)) (pe_ix (ixT K) (pv 0) pe_int (fun _ _ => rfl))) pa_nil))))), ?_⟩
    have ea := and_nat ⟨x.1, h1⟩ ⟨x.2, h2⟩
    have ex := xor_nat ⟨x.1, h1⟩ ⟨x.2, h2⟩
    dsimp only at ea ex
    exact eu_tup (vs := kTup (keyN x)) (ea_cons (ev_is (ev_op (ev_fst hp (ev_var rfl)) (ev_snd hp (ev_var rfl)) rv_I0) (congrArg V.int ea)) (ea_cons (ev_is (ev_op (ev_fst hp (ev_var rfl)) (ev_snd hp (ev_var rfl)) rv_I0) (congrArg V.int ex)) ea_nil)) (by simp [kTup]) H (Ex.refl H) _ k
theorem eu_together {σ : L2.St} {H : Hp} {E : XK} {ta : TE} {p : Addr} {x : Nat × Nat} (h : Ev ta σ H (.ref p)) (hp : PairAt H p x) (h1 : x.1 < 64) (h2 : x.2 < 64) : EvU (tCall (sp_together K) [] E (tCons ta tNil)) σ H (kTup (keyN x)) := fun H1 e1 Q q =>
  h H1 e1 _ fun H2 e2 => ⟨p, x, rfl, (e1.trans e2) _ _ hp, h1, h2, fun b H3 hb e3 h3 => q b H3 (fresh_back e2 hb) (e2.trans e3) h3⟩
/-- of each key the first pair -/
def Firsts (H : Hp) (kvs : List (List L2.Key × V)) (ps : List (Nat × Nat)) : Prop := ∀ k : Nat × Nat, (ps.find? (fun q => decide (keyN q = k)) = none → valV kvs (kN k) = none) ∧ ∀ q, ps.find? (fun q => decide (keyN q = k)) = some q → ∃ p, valV kvs (kN k) = some (.ref p) ∧ PairAt H p q
theorem Firsts.ex {H H' : Hp} {kvs : List (List L2.Key × V)} {ps : List (Nat × Nat)} (h : Firsts H kvs ps) (e : Ex H H') : Firsts H' kvs ps := fun k => ⟨(h k).1, fun q hq => by
  obtain ⟨p, h1, h2⟩ := (h k).2 q hq
  exact ⟨p, h1, e _ _ h2⟩⟩
theorem find_snoc {α : Type} (f : α → Bool) (l : List α) (a : α) : (l ++ [a]).find? f = (match l.find? f with | some x => some x | none => if f a = true then some a else none) := by
  rw [List.find?_append]
  cases l.find? f with
  | some x => rfl
  | none =>
    show ([a] : List α).find? f = _
    rw [List.find?_cons]
    cases f a <;> rfl
theorem Firsts.old {H : Hp} {kvs : List (List L2.Key × V)} {ps : List (Nat × Nat)} {x : Nat × Nat} {v : V} (h : Firsts H kvs ps) (hv : valV kvs (kN (keyN x)) = some v) : Firsts H kvs (ps ++ [x]) := fun k => by
  rw [find_snoc]
  cases hf : ps.find? fun q => decide (keyN q = k) with
  | some y => exact ⟨fun z => (by cases z), fun q hq => by cases hq; exact (h k).2 _ hf⟩
  | none =>
    by_cases hk : keyN x = k
    · subst hk
      rw [(h _).1 hf] at hv
      cases hv
    · rw [if_neg (by simpa using hk)]
      exact ⟨fun _ => (h k).1 hf, fun q hq => by cases hq⟩
theorem Firsts.new {H : Hp} {kvs : List (List L2.Key × V)} {ps : List (Nat × Nat)} {x : Nat × Nat} {p : Addr} (h : Firsts H kvs ps) (hv : valV kvs (kN (keyN x)) = none) (hp : PairAt H p x) : Firsts H (putK kvs (kN (keyN x)) (.ref p)) (ps ++ [x]) := fun k => by
  rw [find_snoc, valV_put]
  cases hf : ps.find? fun q => decide (keyN q = k) with
  | some y =>
    refine ⟨fun z => (by cases z), fun q hq => ?_⟩
    cases hq
    obtain ⟨b, h1, h2⟩ := (h k).2 _ hf
    have hk : ¬ kN k = kN (keyN x) := fun z => by
      rw [kN_inj z, hv] at h1
      cases h1
    rw [if_neg hk]
    exact ⟨b, h1, h2⟩
  | none =>
    by_cases hk : keyN x = k
    · subst hk
      rw [if_pos (decide_eq_true rfl), if_pos rfl]
      exact ⟨fun z => (by cases z), fun q hq => by cases hq; exact ⟨p, rfl, hp⟩⟩
    · rw [if_neg (by simpa using hk), if_neg fun z => hk (kN_inj z).symm]
      exact ⟨fun _ => (h k).1 hf, fun q hq => by cases hq⟩
def goodL (n : Nat) (f : Nat → Bool) : List Nat := (List.range (2 ^ n)).filter f
theorem goodL_len {n : Nat} (hn : n ≤ 6) (f : Nat → Bool) : (goodL n f).length ≤ 64 := by
  have h := List.length_filter_le f (List.range (2 ^ n))
  rw [List.length_range] at h
  have := pow64 hn
  unfold goodL
  omega
theorem goodL_lt {n : Nat} (hn : n ≤ 6) {f : Nat → Bool} {c : Nat} (h : c ∈ goodL n f) : c < 64 := by
  have := List.mem_range.mp (List.mem_filter.mp h).1
  have := pow64 hn
  omega
theorem mem_pairs : ∀ {l : List Nat} {p : Nat × Nat}, p ∈ pairsN l → p.1 ∈ l ∧ p.2 ∈ l
  | [], p, h => by cases h
  | x :: l, p, h => by
    rw [pairsN, List.mem_append] at h
    rcases h with h | h
    · obtain ⟨y, hy, rfl⟩ := List.mem_map.mp h
      exact ⟨List.mem_cons_self .., hy⟩
    · obtain ⟨h1, h2⟩ := mem_pairs h
      exact ⟨List.mem_cons_of_mem _ h1, List.mem_cons_of_mem _ h2⟩
def sp_trade (K : PySem.W.Frag) : Sp := fun vs H Q _ => ∃ (a : Addr) (n : Nat) (f : Nat → Bool), vs = [.ref a] ∧ Tab K H a n f ∧ RetL (nats ((tradeL (goodL n f) (goodL n fun c => !f c)).getD [])) H Q
/-- for pair in pairs_of([..]) -/
theorem el_pairs {σ : L2.St} {H : Hp} {E : XK} {te : TE} {cs : List Nat} (h : EvL te σ H (nats cs)) (hl : cs.length ≤ 64) : ∀ H1, Ex H H1 → ∀ Q : VK, (∀ p H2, H1 p = none → Ex H1 H2 → PairsAt H2 p (pairsN cs) → Q (.ref p) H2) → tCall (sp_pairs K) [] E (tCons te tNil) σ H1 Q := fun H1 e1 Q q =>
  h H1 e1 _ fun a H2 ha e2 h2 => ⟨a, cs, rfl, sq_of h2, hl, fun p H3 hp e3 h3 => q p H3 (fresh_back e2 hp) (e2.trans e3) h3⟩
theorem el_good {σ : L2.St} {H : Hp} {a : Addr} {n i j : Nat} {f g : Nat → Bool} {vs : List Nat} {tt : TT} (hT : Tab K H a n f) (hj : σ[j]? = some (some (.ref a))) (hi : ∀ x, ((wipe σ vs).set i (some x))[i]? = some (some x)) (hw : ∀ x, wipe ((wipe σ vs).set i (some x)) vs = wipe σ vs)
    (ht : ∀ (c : Nat) H1, Ex H H1 → c < 2 ^ n → EvT tt ((wipe σ vs).set i (some (.int (c : Int)))) H1 (g c)) : EvL (tLc (iRng1 (tCons (tCB (rLenS K) (tCons (tVar j) tNil)) tNil)) (gName i) tt (tVar i) vs) σ H (nats (goodL n g)) := by
  refine el_is (el_lcR1 (n := ((tab n f).length : Int)) g (fun (i : Nat) => V.int (i : Int)) (ea_cons (ev_len (ev_var hj) hT.2) ea_nil) (tab_rng hT.1) hw (fun c H1 e1 hc => ?_) (fun c H1 e1 hc _ => ev_var (hi _))) ?_
  · rw [tab_len] at hc
    exact ht c H1 e1 (by omega)
  · rw [given_nats, Int.toNat_natCast, tab_len]
    rfl
theorem et_inT {σ : L2.St} {H : Hp} {ty td : TE} {d : Addr} {k : Nat × Nat} {kvs : List (List L2.Key × V)} (h1 : EvU ty σ H (kTup k)) (h2 : Ev td σ H (.ref d)) (hd : H d = some (.dT kvs)) : EvT (tB (tDIn ty td)) σ H (valV kvs (kN k)).isSome := fun H1 e1 Q q =>
  h1 H1 e1 _ fun b H2 hb e2 hk => h2 H2 (e1.trans e2) _ fun H3 e3 => ⟨d, _, rfl, DGet.t (k := kN k) (((e1.trans e2).trans e3) _ _ hd) (e3 _ _ hk), _, rfl, q H3 (e2.trans e3)⟩
theorem ev_getT {σ : L2.St} {H : Hp} {ty td : TE} {d : Addr} {k : Nat × Nat} {kvs : List (List L2.Key × V)} {v : V} (h2 : Ev td σ H (.ref d)) (h1 : EvU ty σ H (kTup k)) (hd : H d = some (.dT kvs)) (hv : valV kvs (kN k) = some v) : Ev (tDGet td ty) σ H v := fun H1 e1 Q q =>
  h2 H1 e1 _ fun H2 e2 => h1 H2 (e1.trans e2) _ fun b H3 hb e3 hk => ⟨d, v, rfl, by rw [← hv]; exact DGet.t (k := kN k) (((e1.trans e2).trans e3) _ _ hd) hk, q H3 (e2.trans e3)⟩
theorem el_listT {σ : L2.St} {H : Hp} {ta : TE} {p : Addr} {xs : List V} (ha : Ev ta σ H (.ref p)) (h : H p = some (.tup xs)) : EvL (tCB (rListS K) (tCons ta tNil)) σ H xs := fun H1 e Q q =>
  ha H1 e _ fun H2 e2 => ⟨p, xs, rfl, Or.inr (st_of ((e.trans e2) _ _ h)), fun l hl => q l _ (fresh_back e2 hl) (e2.trans (Ex.new hl)) upd_same⟩
theorem el_catLL {σ : L2.St} {H : Hp} {ta tb : TE} {xs ys : List V} (h1 : EvL ta σ H xs) (h2 : EvL tb σ H ys) (hz : xs.length + ys.length ≤ 16777216) : EvL (tOp rCat ta tb) σ H (xs ++ ys) := fun H1 e1 Q q =>
  h1 H1 e1 _ fun p H2 hp e2 hx => h2 H2 (e1.trans e2) _ fun a H3 ha e3 hy => ⟨p, a, xs, ys, rfl, rfl, e3 _ _ hx, hy, by rw [sizeLine_eq]; exact hz, fun l hl => q l _ (fresh_back (e2.trans e3) hl) ((e2.trans e3).trans (Ex.new hl)) upd_same⟩
theorem take_some {α β : Type} {f : α → Option β} {l : List α} {i : Nat} {x : α} {y : β} (h : (l.take i).findSome? f = none) (hx : l[i]? = some x) (hy : f x = some y) : l.findSome? f = some y := by
  have hlt := (List.getElem?_eq_some_iff.mp hx).1
  have e : l = l.take i ++ l.drop i := (List.take_append_drop i l).symm
  have e2 : l.drop i = x :: l.drop (i + 1) := by
    rw [List.drop_eq_getElem_cons hlt]
    rw [List.getElem?_eq_getElem hlt] at hx
    rw [Option.some.inj hx]
  rw [e, List.findSome?_append, h, e2, List.findSome?_cons, hy]
  rfl
theorem take_none {α β : Type} {f : α → Option β} {l : List α} {i : Nat} {x : α} (h : (l.take i).findSome? f = none) (hx : l[i]? = some x) (hy : f x = none) : (l.take (i + 1)).findSome? f = none := by
  rw [List.take_succ, hx, List.findSome?_append, h]
  show List.findSome? f [x] = none
  rw [List.findSome?_cons, hy]
  rfl
theorem ok_first_trade (S : Top K mg) : Has P w K mg base CX0 "first_trade" 2 P_first_trade (sp_trade K) := by
  refine has_of (g_first_trade S) (fn_first_trade S) sc_first_trade bi_first_trade (fun vs H Q E h => ?_) (fun cdv A outer s H vs Q E hr h => ?_)
  · obtain ⟨a, n, f, rfl, _⟩ := h
    rfl
  · obtain ⟨a, n, f, rfl, hT, k⟩ := h
    refine ⟨_, (pss_cons (ps_set (i := 1) sc_first_trade.nd rfl (Or.inl rfl) pe_dnewT)
      (pss_cons (ps_for PassesOwn.never rfl (piL K (pe_h (ok_pairs_of S) (hr.mono (by omega)) rfl (pa_cons (pe_lc (own := [("company", 3)]) rfl sc_first_trade.nd (pi_range1 (by rfl) (n_range S) (pa_cons (pe_callB (cLen K) (by rfl) (n_len S) PySem.boot_len (pa_cons (pv 0) pa_nil)) pa_nil)) (blkOk_by (own := [("company", 3)]) (N := N_first_trade) (sc := defScope s_first_trade) (by decide +kernel)) (fun _ _ _ _ _ => (pg_name (i := 3) sc_first_trade.nd rfl (Or.inl rfl))) (fun _ _ _ _ _ => (pts_one (pt_not (pt_val (pe_ix (ixL K) (pv 0) (pv 3) (fun _ _ => rfl)))))) (fun _ _ _ _ _ => (pv 3))) pa_nil))) (pg_name (i := 2) sc_first_trade.nd rfl (Or.inl rfl))
      (pss_one (ps_expr (pe_setT (hu65 hr) (pv 1) (pe_h (ok_together S) (hr.mono (by omega)) rfl (pa_cons (pv 2) pa_nil)) (pv 2)))))
      (pss_cons (ps_for PassesOwn.never rfl (piL K (pe_h (ok_pairs_of S) (hr.mono (by omega)) rfl (pa_cons (pe_lc (own := [("company", 3)]) rfl sc_first_trade.nd (pi_range1 (by rfl) (n_range S) (pa_cons (pe_callB (cLen K) (by rfl) (n_len S) PySem.boot_len (pa_cons (pv 0) pa_nil)) pa_nil)) (blkOk_by (own := [("company", 3)]) (N := N_first_trade) (sc := defScope s_first_trade) (by decide +kernel)) (fun _ _ _ _ _ => (pg_name (i := 3) sc_first_trade.nd rfl (Or.inl rfl))) (fun _ _ _ _ _ => (pts_one (pt_val (pe_ix (ixL K) (pv 0) (pv 3) (fun _ _ => rfl))))) (fun _ _ _ _ _ => (pv 3))) pa_nil))) (pg_name (i := 2) sc_first_trade.nd rfl (Or.inl rfl))
      (pss_one (ps_if (pt_inD (hu65 hr) (pe_h (ok_together S) (hr.mono (by omega)) rfl (pa_cons (pv 2) pa_nil)) (pv 1))
      (pss_one (ps_ret (pe_op op_cat (pe_callTy (cListOf K) (by rfl) (n_list S) boot_list' (pa_cons (pv 2) pa_nil)) (pe_callTy (cListOf K) (by rfl) (n_list S) boot_list' (pa_cons (pe_ixD (hu65 hr) (pv 1) (pe_h (ok_together S) (hr.mono (by omega)) rfl (pa_cons (pv 2) pa_nil))) pa_nil))))) pss_nil)))
      (pss_one (ps_ret (pe_lst pa_nil)))))), ?_⟩
    have hn := hT.1
    have lb := goodL_len hn fun c => !f c
    have lg := goodL_len hn f
    have lt : ∀ {g : Nat → Bool} {i : Nat} {x : Nat × Nat}, (pairsN (goodL n g))[i]? = some x → x.1 < 64 ∧ x.2 < 64 := fun hx => by
      obtain ⟨h1, h2⟩ := mem_pairs (List.mem_of_getElem? hx)
      exact ⟨goodL_lt hn h1, goodL_lt hn h2⟩
    refine q_set fun d hd => ?_
    have e1 : Ex H (upd H d (.dT [])) := Ex.new hd
    have hd1 : upd H d (.dT []) d = some (.dT []) := upd_same
    have hT1 := hT.ex e1
    generalize upd H d (.dT []) = H1 at e1 hd1 hT1 ⊢
    refine el_pairs (cs := goodL n fun c => !f c) (el_good hT1 rfl (fun _ => rfl) (fun _ => rfl) fun c H2 e2 hc => et_not (et_B (ev_may (hT1.ex e2) hc (ev_var rfl) (ev_var rfl)))) lb H1 (Ex.refl H1) _ fun pl H2 hpl e2 hP => ?_
    obtain ⟨ps, hlst, hps⟩ := hP
    have hpz := paired_len hps
    have hlen := pairs_len lb
    refine ⟨pl, rfl, ⟨_, sq_of hlst⟩, for_list (xs := ps.map V.ref) (fun i σ' H' => ∃ v kvs, σ' = [some (.ref a), some (.ref d), v, none] ∧ Ex H H' ∧ H' d = some (.dT kvs) ∧ Firsts H' kvs ((pairsN (goodL n fun c => !f c)).take i) ∧ kvs.length ≤ i ∧ H' pl = some (.lst (ps.map V.ref)) ∧ Paired (PairAt H') ps (pairsN (goodL n fun c => !f c)))
      ⟨none, [], rfl, e1.trans e2, e2 _ _ hd1, fun k => ⟨fun _ => rfl, fun q hq => by cases hq⟩, Nat.le_refl _, hlst, hps⟩ (fun i σ' H' _ h => ?_) ?_ ?_⟩
    · obtain ⟨v, kvs, _, _, _, _, _, h, _⟩ := h
      exact sq_of h
    · rintro i x σ' H' hx ⟨v, kvs, rfl, e3, hd3, hF, hkl, hl3, hps3⟩
      obtain ⟨p, y, rfl, hy, hp⟩ := pairs_get hps3 hx
      obtain ⟨y1, y2⟩ := lt hy
      have hi := (List.getElem?_eq_some_iff.mp hy).1
      have et : (pairsN (goodL n fun c => !f c)).take (i + 1) = (pairsN (goodL n fun c => !f c)).take i ++ [y] := by
        rw [List.take_succ, hy]
        rfl
      refine ⟨_, rfl, d, rfl, .inr ⟨kvs, .of hd3⟩, eu_together (x := y) (ev_var rfl) hp y1 y2 H' (Ex.refl H') _ fun b H4 hb e4 h4 => ⟨_, rfl, kvs, kN (keyN y), b, e4 _ _ hd3, rfl, h4, by rw [sizeLine_eq]; omega, fun v hv => ?_, fun hv => ?_⟩⟩
      · refine ⟨_, kvs, rfl, e3.trans e4, e4 _ _ hd3, ?_, by omega, e4 _ _ hl3, L2.Paired.mapP hps3 fun _ _ z => e4 _ _ z⟩
        rw [et]
        exact (hF.ex e4).old hv
      · have ldn : pl ≠ d := fun z => by rw [z, hd3] at hl3; cases hl3
        have tdn : ∀ {b : Addr} {z : Nat × Nat}, PairAt H4 b z → b ≠ d := fun hb z => by
          have hb' : H4 _ = _ := hb
          rw [z, e4 _ _ hd3] at hb'
          cases hb'
        have e5 : ∀ {b : Addr} {z : Nat × Nat}, PairAt H4 b z → PairAt (upd H4 d (.dT (putK kvs (kN (keyN y)) (.ref p)))) b z := fun hb => by
          show upd H4 d _ _ = _
          rw [upd_ne (tdn hb)]
          exact hb
        refine ⟨_, _, rfl, Ex.mut (e3.trans e4) hd, upd_same, ?_, ?_, ?_, ?_⟩
        · rw [et]
          have := (hF.ex e4).new (p := p) hv (e4 _ _ hp)
          exact fun k => ⟨(this k).1, fun q hq => by
            obtain ⟨b, h1, h2⟩ := (this k).2 q hq
            exact ⟨b, h1, e5 h2⟩⟩
        · have := length_putK kvs (kN (keyN y)) (V.ref p)
          omega
        · rw [upd_ne ldn]
          exact e4 _ _ hl3
        · exact L2.Paired.mapP hps3 fun _ _ z => e5 (e4 _ _ z)
    rintro σ' H3 ⟨v, kvs, rfl, e3, hd3, hF, hkl, hl3, hps3⟩
    rw [List.length_map, hpz, List.take_length] at hF
    have hT3 := hT.ex e3
    refine el_pairs (cs := goodL n f) (el_good hT3 rfl (fun _ => rfl) (fun _ => rfl) fun c H4 e4 hc => et_B (ev_may (hT3.ex e4) hc (ev_var rfl) (ev_var rfl))) lg H3 (Ex.refl H3) _ fun pg H4 hpg e4 hP => ?_
    obtain ⟨gs, hglst, hgs⟩ := hP
    have hgz := paired_len hgs
    have e34 := e3.trans e4
    refine ⟨pg, rfl, ⟨_, sq_of hglst⟩, for_list (xs := gs.map V.ref) (fun i σ' H' => ∃ v, σ' = [some (.ref a), some (.ref d), v, none] ∧ Ex H4 H' ∧ ((pairsN (goodL n f)).take i).findSome? (fun p => ((pairsN (goodL n fun c => !f c)).find? fun q => decide (keyN q = keyN p)).map fun q => quad p q) = none)
      ⟨_, rfl, Ex.refl H4, rfl⟩ (fun i σ' H' _ h => ?_) ?_ ?_⟩
    · obtain ⟨v, _, h, _⟩ := h
      exact sq_of (h _ _ hglst)
    · rintro i x σ' H' hx ⟨v, rfl, e5, hno⟩
      obtain ⟨p, y, rfl, hy, hp⟩ := pairs_get hgs hx
      obtain ⟨y1, y2⟩ := lt hy
      have hp5 : PairAt H' p y := e5 _ _ hp
      have hd5 := e5 _ _ (e4 _ _ hd3)
      have hF5 := hF.ex (e4.trans e5)
      refine s_when (b := (valV kvs (kN (keyN y))).isSome) (et_inT (eu_together (ev_var rfl) hp5 y1 y2) (ev_var rfl) hd5) (fun hb H6 e6 => ?_) fun hb H6 e6 => ?_
      · obtain ⟨v', hv'⟩ := Option.isSome_iff_exists.mp hb
        cases hf : (pairsN (goodL n fun c => !f c)).find? fun q => decide (keyN q = keyN y) with
        | none =>
          rw [(hF5 _).1 hf] at hv'
          cases hv'
        | some q =>
          obtain ⟨b, h1, h2⟩ := (hF5 _).2 q hf
          have e56 := e5.trans e6
          have hb6 : PairAt H6 b q := e6 _ _ h2
          have hres : tradeL (goodL n f) (goodL n fun c => !f c) = some (quad y q) := take_some hno hy (by rw [hf]; rfl)
          rw [hres] at k
          refine s_retL (el_is (el_catLL (el_listT (ev_var rfl) (e6 _ _ hp5)) (el_listT (ev_getT (ev_var rfl) (eu_together (ev_var rfl) (e6 _ _ hp5 : PairAt H6 p y) y1 y2) (e6 _ _ hd5) h1) hb6) (by simp)) rfl) fun r H7 hr e7 h7 => k r H7 (fresh_back (e34.trans e56) hr) ((e34.trans e56).trans e7) h7
      · have hv : valV kvs (kN (keyN y)) = none := by simpa using hb
        refine ⟨_, rfl, e5.trans e6, take_none hno hy ?_⟩
        cases hf : (pairsN (goodL n fun c => !f c)).find? fun q => decide (keyN q = keyN y) with
        | none => rfl
        | some q =>
          obtain ⟨b, h1, h2⟩ := (hF5 _).2 q hf
          rw [hv] at h1
          cases h1
    · rintro σ' H' ⟨v, rfl, e5, hno⟩
      rw [List.length_map, hgz, List.take_length] at hno
      have hres : tradeL (goodL n f) (goodL n fun c => !f c) = none := hno
      rw [hres] at k
      exact s_retL (σ := [some (.ref a), some (.ref d), v, none]) (el_lst ea_nil (by simp)) fun r H6 hr e6 h6 => k r H6 (fresh_back (e34.trans e5) hr) ((e34.trans e5).trans e6) h6
end
end CK
/-! reading.py: rules that are joined -/
namespace CK
open PySem PySem.Spec PyProof.Rows L2 Evl
open Vbpxaf (bit count opens File nameOf Now mayBe done acting may W RESERVED officersIn officerIn listIn ruleIn orIn partIn andIn oneIn)
open VbpxCore (isName isLetter cut placeOf ahead must natOf)
section
variable {P : Program} {w : World} {K : PySem.W.Frag} {mg : Str → Option Value} {base : Heap}
theorem drop1 {α : Type} {l : List α} {j : Nat} : (l.drop j).drop 1 = l.drop (j + 1) := by rw [List.drop_drop]
theorem part_turn {f : File} {e g d : Nat} {ws : Wds} : partIn f e (g + 1) d ws = (oneIn f e g d ws >>= fun z => andIn f e g d z.1 z.2) := by
  conv => lhs; unfold Vbpxaf.partIn
theorem and_stop {f : File} {e g d : Nat} {a : Vbpxaf.Rule} {ws : Wds} (h : ahead (W "and") ws = false) : andIn f e (g + 1) d a ws = .ok (a, ws) := by
  conv => lhs; unfold Vbpxaf.andIn
  simp only [h]
  rfl
theorem and_more {f : File} {e g d : Nat} {a : Vbpxaf.Rule} {ws : Wds} (h : ahead (W "and") ws = true) : andIn f e (g + 1) d a ws = (oneIn f e g d (ws.drop 1) >>= fun z => andIn f e g d (.both a z.1) z.2) := by
  conv => lhs; unfold Vbpxaf.andIn
  simp only [h, if_true]
theorem part_of (S : Top K mg) (d : Nat) (ok_read_one : ∀ S : Top K mg, Has P w K mg base (L2.CX P w) "read_one" (4 * d + 10) P_read_one (sp_in K 1 d oneIn)) : Has P w K mg base (L2.CX P w) "read_part" (4 * d + 11) P_read_part (sp_in K 2 d partIn) := by
  refine has_ofX (g_read_part S) (fn_read_part S) sc_read_part bi_read_part (fun vs H Q E h => ?_) (fun cdv A outer s H vs Q E hr h => ?_)
  · obtain ⟨r, a, t, i, g, f, b, rfl, _⟩ := h
    rfl
  · obtain ⟨r, a, t, i, g, f, b, rfl, hb, hR, ht, hi, hN, hg, kk⟩ := h
    refine ⟨_, (pss_cons (ps_set (i := 3) sc_read_part.nd rfl (Or.inl rfl) (pe_hS (ok_read_one S) (hr.mono (by omega)) rfl (takes_of rfl rfl rfl rfl) (pa_cons (pv 0) (pa_cons (pv 1) (pa_cons (pv 2) pa_nil)))))
      (pss_cons (ps_while (passes_of rfl) (pt_cmpR op_eq (pe_m0 K (pv 0) (ok_Reader_shown S) (hr.mono (by omega))) pe_str (nomark _))
      (pss_cons (ps_expr (pe_m0 K (pv 0) (ok_Reader_go_on S) (hr.mono (by omega))))
      (pss_one (ps_set (i := 3) sc_read_part.nd rfl (Or.inl rfl) (pe_h (ok_and_rule S) (hr.mono (by omega)) rfl (pa_cons (pv 3) (pa_cons (pe_hS (ok_read_one S) (hr.mono (by omega)) rfl (takes_of rfl rfl rfl rfl) (pa_cons (pv 0) (pa_cons (pv 1) (pa_cons (pv 2) pa_nil)))) pa_nil)))))))
      (pss_one (ps_ret (pv 3))))), ?_⟩
    obtain ⟨g, rfl⟩ : ∃ g', g = g' + 1 := ⟨g - 1, by omega⟩
    have hcl := cut_len t 0
    refine q_set ⟨_, rfl, _, rfl, _, rfl, r, a, t, i, g, f, b, rfl, hb, hR, ht, hi, hN, by omega, fun n hn => kk.err n (by rw [part_turn, hn]; rfl), fun rl0 rest0 ho0 p0 H1 j0 hp0 eb1 hR1 hij0 hj0 hr0 hA0 hO0 hz0 => ?_⟩
    have hX0 : partIn f t.length (g + 1) d ((cut 0 t).drop i) = andIn f t.length g d rl0 ((cut 0 t).drop j0) := by
      rw [part_turn, ho0, bindOk, hr0]
    refine q_while (fun m σ' H' => ∃ (rl : Vbpxaf.Rule) (p : Addr) (j g' : Nat), σ' = [some (.ref r), some (.ref a), some (.int b), some (.ref p)] ∧ m = (cut 0 t).length - j ∧ H p = none ∧ ExB r H H' ∧ ReaderAt K H' r (wsOf t) j ∧ i < j ∧ j ≤ (cut 0 t).length ∧ RuleAt K H' p f rl ∧ RuleOk f rl ∧ rsz rl ≤ 100 * (j - i) ∧ 5 * ((cut 0 t).length - j) + 1 ≤ g' ∧
        partIn f t.length (g + 1) d ((cut 0 t).drop i) = andIn f t.length g' d rl ((cut 0 t).drop j)) ((cut 0 t).length - j0)
      ⟨rl0, p0, j0, g, rfl, rfl, hp0, eb1, hR1, hij0, hj0, hA0, hO0, hz0, by omega, hX0⟩ ?_
    rintro m σ' H' ⟨rl, p, j, g', rfl, rfl, hp, eb, hR', hij, hj, hA, hO, hz, hg', hX⟩
    obtain ⟨g', rfl⟩ : ∃ g2, g' = g2 + 1 := ⟨g' - 1, by omega⟩
    have hN' := hR.names hN eb
    obtain ⟨wd, hw, hpl, hdr⟩ := ws_at hj
    have hah := ahead_iff (k := W "and") (by decide +kernel) hj hw
    refine ⟨decide (wd.2 = W "and"), et_is (et_test (ev_op (ev_shown hR' hw rfl) (ev_is ev_c (congrArg V.str (by decide +kernel : ("and" : Str) = st (W "and")))) (rv_eq rfl))) (by rw [dec_st, spl_one (by decide +kernel)]), fun hb1 H2 e2 => ?_, fun hb1 H2 e2 => ?_⟩
    · have hwa := of_decide_eq_true hb1
      have hjl : j < (cut 0 t).length := by
        rcases hdr with ⟨_, h⟩ | ⟨_, h, _⟩
        · exact h
        · rw [h] at hwa
          exact absurd hwa (show ¬ (([] : List Nat) = W "and") by decide +kernel)
      have hX2 : partIn f t.length (g + 1) d ((cut 0 t).drop i) = (oneIn f t.length g' d ((cut 0 t).drop (j + 1)) >>= fun z => andIn f t.length g' d (.both rl z.1) z.2) := by
        rw [hX, and_more (by rw [hah]; exact hb1), drop1]
      refine ⟨fun σ2 H3 => ∃ (rl2 : Vbpxaf.Rule) (p2 : Addr) (j2 : Nat), σ2 = [some (.ref r), some (.ref a), some (.int b), some (.ref p2)] ∧ H p2 = none ∧ ExB r H H3 ∧ ReaderAt K H3 r (wsOf t) j2 ∧ j + 1 < j2 ∧ j2 ≤ (cut 0 t).length ∧ RuleAt K H3 p2 f (.both rl rl2) ∧ RuleOk f (.both rl rl2) ∧ rsz (.both rl rl2) ≤ 100 * (j2 - i) ∧
          partIn f t.length (g + 1) d ((cut 0 t).drop i) = andIn f t.length g' d (.both rl rl2) ((cut 0 t).drop j2), ?_, ?_⟩
      · rintro σ2 H3 ⟨rl2, p2, j2, rfl, hp2, eb3, hR3, hj2, hj2l, hA2, hO2, hz2, hX3⟩
        exact ⟨(cut 0 t).length - j2, by omega, .both rl rl2, p2, j2, g', rfl, rfl, hp2, eb3, hR3, by omega, hj2l, hA2, hO2, hz2, by omega, hX3⟩
      · refine q_goon (hR'.ex e2) rfl fun H3 e3 hR3 => ?_
        have ebx : ExB r H' H3 := (Ex.b e2).trans e3
        have eb3 : ExB r H H3 := eb.trans ebx
        refine ⟨_, rfl, _, rfl, _, rfl, _, rfl, r, a, t, j + 1, g', f, b, rfl, hb, hR3, ht, hjl, hR.names hN eb3, by omega, fun n hn => RaisedB.mono (kk.err n (by rw [hX2, hn]; rfl)) eb3 hR.there hR3.there, fun rl2 rest2 ho2 q H4 j2 hq eb4 hR4 hj2 hj2l hr2 hB hO2 hz2 => ?_⟩
        have hA3 := hR'.rule hA ebx
        have hA4 := hR3.rule hA3 eb4
        have hO' : RuleOk f (.both rl rl2) := ⟨hO, hO2⟩
        have la := txt_len hN.2 hO
        have lb := txt_len hN.2 hO2
        refine ⟨p, q, f, rl, rl2, rfl, hA4, hB, by omega, by omega, fun p2 H5 hp2 e5 hC => ?_⟩
        have eb5 : ExB r H H4 := eb3.trans eb4
        refine ⟨rl2, p2, j2, rfl, eb5.fresh hR.there hp2 hR4.there, eb5.trans (Ex.b e5), hR4.ex e5, hj2, hj2l, hC, hO', ?_, ?_⟩
        · show rsz rl + rsz rl2 + 20 ≤ _
          omega
        · rw [hX2, ho2, bindOk, hr2]
    · refine s_ret (ev_var rfl) fun H3 e3 => kk.ok rl _ (by rw [hX, and_stop (by rw [hah]; exact hb1)]) p H3 j hp (eb.trans (Ex.b (e2.trans e3))) (hR'.ex (e2.trans e3)) hij hj rfl (RuleObj.ex hA (e2.trans e3)) hO hz
theorem rule_turn {f : File} {e g d : Nat} {ws : Wds} : ruleIn f e (g + 1) d ws = (partIn f e g d ws >>= fun z => orIn f e g d z.1 z.2) := by
  conv => lhs; unfold Vbpxaf.ruleIn
theorem or_stop {f : File} {e g d : Nat} {a : Vbpxaf.Rule} {ws : Wds} (h : ahead (W "or") ws = false) : orIn f e (g + 1) d a ws = .ok (a, ws) := by
  conv => lhs; unfold Vbpxaf.orIn
  simp only [h]
  rfl
theorem or_more {f : File} {e g d : Nat} {a : Vbpxaf.Rule} {ws : Wds} (h : ahead (W "or") ws = true) : orIn f e (g + 1) d a ws = (partIn f e g d (ws.drop 1) >>= fun z => orIn f e g d (.either a z.1) z.2) := by
  conv => lhs; unfold Vbpxaf.orIn
  simp only [h, if_true]
theorem rule_of (S : Top K mg) (d : Nat) (ok_read_part : ∀ S : Top K mg, Has P w K mg base (L2.CX P w) "read_part" (4 * d + 11) P_read_part (sp_in K 2 d partIn)) : Has P w K mg base (L2.CX P w) "read_rule" (4 * d + 12) P_read_rule (sp_in K 3 d ruleIn) := by
  refine has_ofX (g_read_rule S) (fn_read_rule S) sc_read_rule bi_read_rule (fun vs H Q E h => ?_) (fun cdv A outer s H vs Q E hr h => ?_)
  · obtain ⟨r, a, t, i, g, f, b, rfl, _⟩ := h
    rfl
  · obtain ⟨r, a, t, i, g, f, b, rfl, hb, hR, ht, hi, hN, hg, kk⟩ := h
    refine ⟨_, (pss_cons (ps_set (i := 3) sc_read_rule.nd rfl (Or.inl rfl) (pe_hS (ok_read_part S) (hr.mono (by omega)) rfl (takes_of rfl rfl rfl rfl) (pa_cons (pv 0) (pa_cons (pv 1) (pa_cons (pv 2) pa_nil)))))
      (pss_cons (ps_while (passes_of rfl) (pt_cmpR op_eq (pe_m0 K (pv 0) (ok_Reader_shown S) (hr.mono (by omega))) pe_str (nomark _))
      (pss_cons (ps_expr (pe_m0 K (pv 0) (ok_Reader_go_on S) (hr.mono (by omega))))
      (pss_one (ps_set (i := 3) sc_read_rule.nd rfl (Or.inl rfl) (pe_h (ok_or_rule S) (hr.mono (by omega)) rfl (pa_cons (pv 3) (pa_cons (pe_hS (ok_read_part S) (hr.mono (by omega)) rfl (takes_of rfl rfl rfl rfl) (pa_cons (pv 0) (pa_cons (pv 1) (pa_cons (pv 2) pa_nil)))) pa_nil)))))))
      (pss_one (ps_ret (pv 3))))), ?_⟩
    obtain ⟨g, rfl⟩ : ∃ g', g = g' + 1 := ⟨g - 1, by omega⟩
    have hcl := cut_len t 0
    refine q_set ⟨_, rfl, _, rfl, _, rfl, r, a, t, i, g, f, b, rfl, hb, hR, ht, hi, hN, by omega, fun n hn => kk.err n (by rw [rule_turn, hn]; rfl), fun rl0 rest0 ho0 p0 H1 j0 hp0 eb1 hR1 hij0 hj0 hr0 hA0 hO0 hz0 => ?_⟩
    have hX0 : ruleIn f t.length (g + 1) d ((cut 0 t).drop i) = orIn f t.length g d rl0 ((cut 0 t).drop j0) := by
      rw [rule_turn, ho0, bindOk, hr0]
    refine q_while (fun m σ' H' => ∃ (rl : Vbpxaf.Rule) (p : Addr) (j g' : Nat), σ' = [some (.ref r), some (.ref a), some (.int b), some (.ref p)] ∧ m = (cut 0 t).length - j ∧ H p = none ∧ ExB r H H' ∧ ReaderAt K H' r (wsOf t) j ∧ i < j ∧ j ≤ (cut 0 t).length ∧ RuleAt K H' p f rl ∧ RuleOk f rl ∧ rsz rl ≤ 100 * (j - i) ∧ 5 * ((cut 0 t).length - j) + 1 ≤ g' ∧
        ruleIn f t.length (g + 1) d ((cut 0 t).drop i) = orIn f t.length g' d rl ((cut 0 t).drop j)) ((cut 0 t).length - j0)
      ⟨rl0, p0, j0, g, rfl, rfl, hp0, eb1, hR1, hij0, hj0, hA0, hO0, hz0, by omega, hX0⟩ ?_
    rintro m σ' H' ⟨rl, p, j, g', rfl, rfl, hp, eb, hR', hij, hj, hA, hO, hz, hg', hX⟩
    obtain ⟨g', rfl⟩ : ∃ g2, g' = g2 + 1 := ⟨g' - 1, by omega⟩
    have hN' := hR.names hN eb
    obtain ⟨wd, hw, hpl, hdr⟩ := ws_at hj
    have hah := ahead_iff (k := W "or") (by decide +kernel) hj hw
    refine ⟨decide (wd.2 = W "or"), et_is (et_test (ev_op (ev_shown hR' hw rfl) (ev_is ev_c (congrArg V.str (by decide +kernel : ("or" : Str) = st (W "or")))) (rv_eq rfl))) (by rw [dec_st, spl_one (by decide +kernel)]), fun hb1 H2 e2 => ?_, fun hb1 H2 e2 => ?_⟩
    · have hwa := of_decide_eq_true hb1
      have hjl : j < (cut 0 t).length := by
        rcases hdr with ⟨_, h⟩ | ⟨_, h, _⟩
        · exact h
        · rw [h] at hwa
          exact absurd hwa (show ¬ (([] : List Nat) = W "or") by decide +kernel)
      have hX2 : ruleIn f t.length (g + 1) d ((cut 0 t).drop i) = (partIn f t.length g' d ((cut 0 t).drop (j + 1)) >>= fun z => orIn f t.length g' d (.either rl z.1) z.2) := by
        rw [hX, or_more (by rw [hah]; exact hb1), drop1]
      refine ⟨fun σ2 H3 => ∃ (rl2 : Vbpxaf.Rule) (p2 : Addr) (j2 : Nat), σ2 = [some (.ref r), some (.ref a), some (.int b), some (.ref p2)] ∧ H p2 = none ∧ ExB r H H3 ∧ ReaderAt K H3 r (wsOf t) j2 ∧ j + 1 < j2 ∧ j2 ≤ (cut 0 t).length ∧ RuleAt K H3 p2 f (.either rl rl2) ∧ RuleOk f (.either rl rl2) ∧ rsz (.either rl rl2) ≤ 100 * (j2 - i) ∧
          ruleIn f t.length (g + 1) d ((cut 0 t).drop i) = orIn f t.length g' d (.either rl rl2) ((cut 0 t).drop j2), ?_, ?_⟩
      · rintro σ2 H3 ⟨rl2, p2, j2, rfl, hp2, eb3, hR3, hj2, hj2l, hA2, hO2, hz2, hX3⟩
        exact ⟨(cut 0 t).length - j2, by omega, .either rl rl2, p2, j2, g', rfl, rfl, hp2, eb3, hR3, by omega, hj2l, hA2, hO2, hz2, by omega, hX3⟩
      · refine q_goon (hR'.ex e2) rfl fun H3 e3 hR3 => ?_
        have ebx : ExB r H' H3 := (Ex.b e2).trans e3
        have eb3 : ExB r H H3 := eb.trans ebx
        refine ⟨_, rfl, _, rfl, _, rfl, _, rfl, r, a, t, j + 1, g', f, b, rfl, hb, hR3, ht, hjl, hR.names hN eb3, by omega, fun n hn => RaisedB.mono (kk.err n (by rw [hX2, hn]; rfl)) eb3 hR.there hR3.there, fun rl2 rest2 ho2 q H4 j2 hq eb4 hR4 hj2 hj2l hr2 hB hO2 hz2 => ?_⟩
        have hA3 := hR'.rule hA ebx
        have hA4 := hR3.rule hA3 eb4
        have hO' : RuleOk f (.either rl rl2) := ⟨hO, hO2⟩
        have la := txt_len hN.2 hO
        have lb := txt_len hN.2 hO2
        refine ⟨p, q, f, rl, rl2, rfl, hA4, hB, by omega, by omega, fun p2 H5 hp2 e5 hC => ?_⟩
        have eb5 : ExB r H H4 := eb3.trans eb4
        refine ⟨rl2, p2, j2, rfl, eb5.fresh hR.there hp2 hR4.there, eb5.trans (Ex.b e5), hR4.ex e5, hj2, hj2l, hC, hO', ?_, ?_⟩
        · show rsz rl + rsz rl2 + 20 ≤ _
          omega
        · rw [hX2, ho2, bindOk, hr2]
    · refine s_ret (ev_var rfl) fun H3 e3 => kk.ok rl _ (by rw [hX, or_stop (by rw [hah]; exact hb1)]) p H3 j hp (eb.trans (Ex.b (e2.trans e3))) (hR'.ex (e2.trans e3)) hij hj rfl (RuleObj.ex hA (e2.trans e3)) hO hz
theorem inner_ok (S : Top K mg) : ∀ d, Has P w K mg base (L2.CX P w) "read_rule" (4 * d + 8) P_read_rule (spInner K d)
  | 0 => has_ofX (g_read_rule S) (fn_read_rule S) sc_read_rule bi_read_rule (fun vs H Q E h => False.elim h) (fun cdv A outer s H vs Q E hr h => False.elim h)
  | d + 1 => rule_of S d fun S => part_of S d fun S => one_of S d fun S => bracket_of S d fun S => inner_ok S d
theorem ok_read_rule (S : Top K mg) : Has P w K mg base (L2.CX P w) "read_rule" 44 P_read_rule (sp_in K 3 8 ruleIn) := inner_ok S 9
end
end CK
/-! reading.py: events -/
namespace CK
open PySem PySem.Spec PyProof.Rows L2 Evl
open Vbpxaf (bit count opens File nameOf Now mayBe done acting may W RESERVED officersIn officerIn listIn ruleIn orIn partIn andIn oneIn eventIn now)
open VbpxCore (isName isLetter cut placeOf ahead must natOf)
section
variable {P : Program} {w : World} {K : PySem.W.Frag} {mg : Str → Option Value} {base : Heap}
theorem EventsAt.exB {H H' : Hp} {r l dx : Addr} {es : List Vbpxaf.Event} {x y : V} (h : EventsAt K H l es) (hr : H r = some (.ins (He.ga K "Reader") dx (nmReader.zip [x, y]))) (e : ExB r H H') : EventsAt K H' l es := by
  obtain ⟨ps, h1, h2⟩ := h
  refine ⟨ps, e _ _ (lst_apart h1 hr) h1, L2.Paired.mapP h2 fun q ev z => ?_⟩
  obtain ⟨d, m, h3, h4⟩ := z
  exact ⟨d, m, e _ _ (ins_apart h3 hr (by decide +kernel)) h3, e _ _ (lst_apart h4 hr) h4⟩
theorem ReaderAt.record {H H' : Hp} {r q el : Addr} {ws : Wds} {i : Nat} {f : File} (hR : ReaderAt K H r ws i) (h : RecordAt K H q el f) (e : ExB r H H') : RecordAt K H' q el f := by
  obtain ⟨dx, nl, ru, h1, h2, h3, h4, h5⟩ := h
  obtain ⟨dr, wl, hr, _⟩ := id hR
  exact ⟨dx, nl, ru, e _ _ (ins_apart h1 hr (by decide +kernel)) h1, hR.names h2 e, hR.rule h3 e, h4.exB hr e, h5⟩
theorem ReaderAt.hall {H H' : Hp} {r h l : Addr} {ws : Wds} {i : Nat} {n : Now} (hR : ReaderAt K H r ws i) (hA : HallAt K H h l n) (e : ExB r H H') : HallAt K H' h l n := by
  obtain ⟨⟨dx, h1⟩, h2⟩ := hA
  obtain ⟨dr, wl, hr, _⟩ := id hR
  exact ⟨⟨dx, e _ _ (ins_apart h1 hr (by decide +kernel)) h1⟩, h2.exB hr e⟩
/-! ### an event as the specification reads it, in two steps -/
def mkE (k : List Nat) (n : Nat) : Vbpxaf.Event := if k = W "come" then .come n else if k = W "go" then .go n else .die n
def evIn (f : File) (e : Nat) (k : List Nat) (ws : Wds) : Except Nat (Vbpxaf.Event × Wds) :=
  if k = W "open" then .ok (.open_, ws)
  else if k = W "stand" then do
    let (n, r1) ← officerIn f e (ws.drop 1)
    let r2 ← must e (W "for") r1
    let (m, _) ← officerIn f e r2
    return (.stand n m, r2)
  else do
    let (n, _) ← officerIn f e (ws.drop 1)
    return (mkE k n, ws.drop 1)
def kinds : List (List Nat) := [W "come", W "go", W "die", W "stand", W "open"]
theorem kinds_cases {k : List Nat} (h : kinds.contains k = true) : k = W "come" ∨ k = W "go" ∨ k = W "die" ∨ k = W "stand" ∨ k = W "open" := by
  have := List.contains_iff_mem.mp h
  unfold kinds at this
  simpa using this
theorem officer_rest {f : File} {e n : Nat} {ws r : Wds} (h : officerIn f e ws = .ok (n, r)) : r = ws.drop 1 := by
  cases ws with
  | nil => cases h
  | cons w r' =>
    have h' : (match f.officers.findIdx? (fun x => x == w.2) with
      | some n => Except.ok (n, r')
      | none => .error w.1) = Except.ok (n, r) := h
    cases hf : f.officers.findIdx? (fun x => x == w.2) with
    | none =>
      rw [hf] at h'
      cases h'
    | some m =>
      rw [hf] at h'
      cases h'
      rfl
theorem event_one {f : File} {e : Nat} {ws : Wds} {x : Nat → Vbpxaf.Event} : (officerIn f e ws >>= fun z => if mayBe f (now f) (x z.1) = true then (.ok (x z.1, z.2) : Except Nat (Vbpxaf.Event × Wds)) else .error (placeOf e ws)) =
    ((officerIn f e ws >>= fun z => (.ok (x z.1, ws) : Except Nat (Vbpxaf.Event × Wds))) >>= fun z => if mayBe f (now f) z.1 = true then .ok (z.1, z.2.drop 1) else .error (placeOf e z.2)) := by
  cases h : officerIn f e ws with
  | error n => rfl
  | ok z =>
    obtain ⟨n, r⟩ := z
    rw [officer_rest h]
    rfl
theorem event_turn {f : File} {e : Nat} {wd : Nat × List Nat} {r : Wds} (hk : kinds.contains wd.2 = true) (hl : f.events.length < 60) : eventIn f e (wd :: r) = (evIn f e wd.2 (wd :: r) >>= fun z => if mayBe f (now f) z.1 = true then .ok (z.1, z.2.drop 1) else .error (placeOf e z.2)) := by
  obtain ⟨p, k⟩ := wd
  have hl' : ¬ (Vbpxaf.EVENTS ≤ f.events.length) := by show ¬ (60 ≤ _); omega
  obtain ⟨c1, c2, c3, c4, c5, c6, c7, c8, c9, c10⟩ := kinds_ne
  unfold Vbpxaf.eventIn evIn
  simp only [if_neg hl', List.drop_succ_cons, List.drop_zero]
  rcases kinds_cases hk with h | h | h | h | h
  all_goals
    simp only at h
    subst h
  · simp only [if_true, if_neg c4, if_neg c3]
    exact event_one
  · simp only [if_neg (Ne.symm c1), if_true, if_neg c7, if_neg c6]
    exact event_one (x := .go)
  · simp only [if_neg (Ne.symm c2), if_neg (Ne.symm c5), if_true, if_neg c9, if_neg c8]
    exact event_one (x := .die)
  · simp only [if_neg (Ne.symm c3), if_neg (Ne.symm c6), if_neg (Ne.symm c8), if_true, if_neg c10]
    cases h1 : officerIn f e r with
    | error n => rfl
    | ok z =>
      obtain ⟨n, r1⟩ := z
      show (must e (W "for") r1 >>= _) = ((must e (W "for") r1 >>= _) >>= _)
      cases h2 : must e (W "for") r1 with
      | error n => rfl
      | ok r2 =>
        show (officerIn f e r2 >>= _) = ((officerIn f e r2 >>= _) >>= _)
        cases h3 : officerIn f e r2 with
        | error n => rfl
        | ok z =>
          obtain ⟨m, r3⟩ := z
          rw [officer_rest h3]
          rfl
  · simp only [if_neg (Ne.symm c4), if_neg (Ne.symm c7), if_neg (Ne.symm c9), if_neg (Ne.symm c10), if_true, true_and]
    rfl
theorem event_no {f : File} {e : Nat} {wd : Nat × List Nat} {r : Wds} (h : kinds.contains wd.2 = false ∨ 60 ≤ f.events.length) : eventIn f e (wd :: r) = .error wd.1 := by
  unfold Vbpxaf.eventIn
  by_cases hl : Vbpxaf.EVENTS ≤ f.events.length
  · exact if_pos hl
  · have hk : kinds.contains wd.2 = false := by
      rcases h with h | h
      · exact h
      · exact absurd h hl
    have hn : ∀ k ∈ kinds, ¬ (wd.2 = k) := fun k hm z => by
      rw [← z] at hm
      have := List.contains_iff_mem.mpr hm
      rw [hk] at this
      cases this
    have n1 := hn (W "come") (by simp [kinds])
    have n2 := hn (W "go") (by simp [kinds])
    have n3 := hn (W "die") (by simp [kinds])
    have n4 := hn (W "stand") (by simp [kinds])
    have n5 := hn (W "open") (by simp [kinds])
    simp only [if_neg hl, if_neg n1, if_neg n2, if_neg n3, if_neg n4]
    exact if_neg fun z => n5 z.1
/-! ### its officers -/
def sp_read_event_officers (K : PySem.W.Frag) : Sp := fun vs H Q E => ∃ (r a : Addr) (t : List Nat) (i : Nat) (f : File) (k : List Nat), vs = [.ref r, .ref a, .str (st k)] ∧ ReaderAt K H r (wsOf t) i ∧ t.length ≤ 2000 ∧ i < (cut 0 t).length ∧ NamesAt K H a f ∧ kinds.contains k = true ∧
  (∀ n, evIn f t.length k ((cut 0 t).drop i) = .error n → RaisedB K r n H E) ∧
  (∀ x rest, evIn f t.length k ((cut 0 t).drop i) = .ok (x, rest) → kindB x = k → (∀ y ∈ offs x, y < count f) → ∀ p H2 j, H p = none → ExB r H H2 → H2 p = some (.lst (nats (offs x))) → ReaderAt K H2 r (wsOf t) j → i ≤ j → j < (cut 0 t).length → rest = (cut 0 t).drop j → Q (.ref p) H2)
theorem kind_mk {k : List Nat} {n : Nat} (h : kinds.contains k = true) (h1 : k ≠ W "stand") (h2 : k ≠ W "open") : kindB (mkE k n) = k ∧ offs (mkE k n) = [n] := by
  obtain ⟨c1, c2, c3, c4, c5, c6, c7, c8, c9, c10⟩ := kinds_ne
  rcases kinds_cases h with rfl | rfl | rfl | rfl | rfl
  · unfold mkE
    rw [if_pos rfl]
    exact ⟨rfl, rfl⟩
  · unfold mkE
    rw [if_neg (Ne.symm c1), if_pos rfl]
    exact ⟨rfl, rfl⟩
  · unfold mkE
    rw [if_neg (Ne.symm c2), if_neg (Ne.symm c5)]
    exact ⟨rfl, rfl⟩
  · exact absurd rfl h1
  · exact absurd rfl h2
theorem ok_read_event_officers (S : Top K mg) : Has P w K mg base (L2.CX P w) "read_event_officers" 7 P_read_event_officers (sp_read_event_officers K) := by
  refine has_ofX (g_read_event_officers S) (fn_read_event_officers S) sc_read_event_officers bi_read_event_officers (fun vs H Q E h => ?_) (fun cdv A outer s H vs Q E hr h => ?_)
  · obtain ⟨r, a, t, i, f, k, rfl, _⟩ := h
    rfl
  · obtain ⟨r, a, t, i, f, k, rfl, hR, ht, hi, hN, hk, k1, k2⟩ := h
    refine ⟨_, (pss_cons (ps_if (pt_cmpR op_eq (pv 2) (pe_gs (g_UNLOCK S) rfl) (nomark _))
      (pss_one (ps_ret (pe_lst pa_nil))) pss_nil)
      (pss_cons (ps_expr (pe_m0 K (pv 0) (ok_Reader_go_on S) (hr.mono (by omega))))
      (pss_cons (ps_if (pt_cmpR op_ne (pv 2) (pe_gs (g_STAND S) rfl) (nomark _))
      (pss_one (ps_ret (pe_lst (pa_cons (pe_hS (ok_shown_officer S) (hr.mono (by omega)) rfl (takes_of rfl rfl rfl rfl) (pa_cons (pv 0) (pa_cons (pv 1) pa_nil))) pa_nil)))) pss_nil)
      (pss_cons (ps_set (i := 3) sc_read_event_officers.nd rfl (Or.inl rfl) (pe_hS (ok_read_officer S) (hr.mono (by omega)) rfl (takes_of rfl rfl rfl rfl) (pa_cons (pv 0) (pa_cons (pv 1) pa_nil))))
      (pss_cons (ps_expr (pe_mS K (pv 0) (ok_Reader_expect S) (hr.mono (by omega)) (takes_of rfl rfl rfl rfl) (pa_cons pe_str pa_nil)))
      (pss_one (ps_ret (pe_lst (pa_cons (pv 3) (pa_cons (pe_hS (ok_shown_officer S) (hr.mono (by omega)) rfl (takes_of rfl rfl rfl rfl) (pa_cons (pv 0) (pa_cons (pv 1) pa_nil))) pa_nil)))))))))), ?_⟩
    refine q_when (b := decide (k = W "open")) (et_is (et_test (ev_op (ev_var rfl) (ev_is ev_c (congrArg V.str lit_open)) (rv_eq rfl))) (dec_st _ _)) (fun hb H1 e1 => ?_) fun hb H1 e1 => ?_
    · have ho := of_decide_eq_true hb
      refine s_retL (el_lst ea_nil (by simp)) fun p H2 hp e2 h2 => k2 .open_ _ (by unfold evIn; rw [if_pos ho]) ho.symm (fun y hy => by cases hy) p H2 i (fresh_back e1 hp) (Ex.b (e1.trans e2)) h2 (hR.ex (e1.trans e2)) (Nat.le_refl _) hi rfl
    have ho := of_decide_eq_false hb
    refine q_goon (hR.ex e1) rfl fun H2 e2 hR2 => ?_
    have eb2 : ExB r H H2 := (Ex.b e1).trans e2
    have hN2 := hR.names hN eb2
    refine q_when (b := !decide (k = W "stand")) (et_is (et_test (ev_op (ev_var rfl) (ev_is ev_c (congrArg V.str lit_stand)) (rv_ne rfl))) (by rw [dec_st])) (fun hb2 H3 e3 => ?_) fun hb2 H3 e3 => ?_
    · have hs : k ≠ W "stand" := by simpa using hb2
      have hX : evIn f t.length k ((cut 0 t).drop i) = (officerIn f t.length ((cut 0 t).drop (i + 1)) >>= fun z => .ok (mkE k z.1, (cut 0 t).drop (i + 1))) := by
        unfold evIn
        rw [if_neg ho, if_neg hs, drop1]
        rfl
      have hR3 := hR2.ex e3
      have eb3 : ExB r H H3 := eb2.trans (Ex.b e3)
      refine c_shown rfl rfl hR3 ht (show i + 1 ≤ _ by omega) (hN2.ex e3) (fun n hn => RaisedB.mono (k1 n ?_) eb3 hR.there hR3.there) fun n hoo hil hnc H4 e4 => ⟨(by simp [sizeLine_eq]), fun p hp => ?_⟩
      · rw [hX, hn]
        rfl
      · have e5 : Ex H4 (upd H4 p (.lst [V.int (n : Int)])) := Ex.new hp
        obtain ⟨hkb, hof⟩ := kind_mk (n := n) hk hs ho
        refine k2 (mkE k n) _ (by rw [hX, hoo]; rfl) hkb (fun y hy => ?_) p _ (i + 1) (eb3.fresh hR.there (fresh_back e4 hp) hR3.there) (eb3.trans (Ex.b (e4.trans e5))) ?_ (hR3.ex (e4.trans e5)) (by omega) hil rfl
        · rw [hof] at hy
          have : y = n := by simpa using hy
          omega
        · rw [hof]
          exact upd_same
    · have hs : k = W "stand" := by simpa using hb2
      have hX : evIn f t.length k ((cut 0 t).drop i) = (officerIn f t.length ((cut 0 t).drop (i + 1)) >>= fun z => must t.length (W "for") z.2 >>= fun r2 => officerIn f t.length r2 >>= fun y => .ok (.stand z.1 y.1, r2)) := by
        unfold evIn
        rw [if_neg ho, if_pos hs, drop1]
        rfl
      have hR3 := hR2.ex e3
      have eb3 : ExB r H H3 := eb2.trans (Ex.b e3)
      refine q_set (c_read rfl rfl hR3 ht (show i + 1 ≤ _ by omega) (hN2.ex e3) (fun n hn => RaisedB.mono (k1 n (by rw [hX, hn]; rfl)) eb3 hR.there hR3.there) fun n hoo hil hnc H4 e4 hR4 => ?_)
      have eb4 := eb3.trans e4
      obtain ⟨wd, hw, _, _⟩ := ws_at (t := t) (i := i + 2) (by omega)
      have hm := must_at (k := W "for") (by decide +kernel) (show i + 2 ≤ _ by omega) hw
      refine q_expect (b := W "for") (by decide +kernel) hR4 hw rfl (fun h5 H5 e5 hR5 => ?_) fun h5 => RaisedB.mono (k1 _ ?_) eb4 hR.there hR4.there
      rotate_left
      · rw [hX, hoo, bindOk, hm.2 fun z => h5 ((spl_iff (by decide +kernel)).mpr z)]
        rfl
      obtain ⟨hi2, hm'⟩ := hm.1 ((spl_iff (by decide +kernel)).mp h5)
      have eb5 := eb4.trans e5
      have hN5 := hR.names hN eb5
      refine ⟨_, rfl, c_shown rfl rfl hR5 ht (show i + 3 ≤ _ by omega) hN5 (fun n' hn => RaisedB.mono (k1 n' ?_) eb5 hR.there hR5.there) fun m hom hil3 hmc H6 e6 => ⟨(by simp [sizeLine_eq]), fun p hp => ?_⟩⟩
      · rw [hX, hoo, bindOk, hm', bindOk, hn]
        rfl
      · have e7 : Ex H6 (upd H6 p (.lst [V.int (n : Int), V.int (m : Int)])) := Ex.new hp
        refine k2 (.stand n m) _ (by rw [hX, hoo, bindOk, hm', bindOk, hom]; rfl) hs.symm (fun y hy => ?_) p _ (i + 3) (eb5.fresh hR.there (fresh_back e6 hp) hR5.there) (eb5.trans (Ex.b (e6.trans e7))) upd_same (hR5.ex (e6.trans e7)) (by omega) hil3 rfl
        have : y = n ∨ y = m := by simpa [offs] using hy
        omega
end
end CK
/-! reading.py: an event -/
namespace CK
open PySem PySem.Spec PyProof.Rows L2 Evl
open Vbpxaf (bit count opens File nameOf Now mayBe done acting may W RESERVED officersIn officerIn listIn ruleIn orIn partIn andIn oneIn eventIn now)
open VbpxCore (isName isLetter cut placeOf ahead must natOf)
section
variable {P : Program} {w : World} {K : PySem.W.Frag} {mg : Str → Option Value} {base : Heap}
theorem now_eq (f : File) : now f = f.events.foldl done Vbpxaf.begin_ := by
  unfold Vbpxaf.now Vbpxaf.behind
  rw [List.take_length]
theorem now_ok {f : File} (hk : count f ≤ 6) (hv : Valid f f.events) : NowOk (count f) (now f) ∧ (now f).stands.length ≤ f.events.length := by
  have := valid_now hk hv f.events.length (Nat.le_refl _)
  exact this
def sp_read_event (K : PySem.W.Frag) : Sp := fun vs H Q E => ∃ (r q el h l : Addr) (t : List Nat) (i : Nat) (f : File), vs = [.ref r, .ref q, .ref h] ∧ ReaderAt K H r (wsOf t) i ∧ t.length ≤ 2000 ∧ i ≤ (cut 0 t).length ∧ RecordAt K H q el f ∧ FileOk f ∧ HallAt K H h l (now f) ∧
  (∀ n, eventIn f t.length ((cut 0 t).drop i) = .error n → RaisedB K r n H E) ∧
  (∀ x rest, eventIn f t.length ((cut 0 t).drop i) = .ok (x, rest) → mayBe f (now f) x = true → f.events.length < 60 → ∀ p dp po H2 j, H p = none → H po = none → ExB r H H2 → H2 p = some (.ins (He.ga K "Event") dp (nmEvent.zip [.str (st (kindB x)), .ref po])) → H2 po = some (.lst (nats (offs x))) → ReaderAt K H2 r (wsOf t) j → i < j → j ≤ (cut 0 t).length → rest = (cut 0 t).drop j → Q (.ref p) H2)
theorem kinds_spl (w : List Nat) : kinds.contains (spl w) = kinds.contains w := by
  have hs : ∀ k ∈ kinds, k.all sgB = true := by decide +kernel
  rw [Bool.eq_iff_iff, List.contains_iff_mem, List.contains_iff_mem]
  constructor
  · intro hm
    rw [← (spl_iff (hs _ hm)).mp rfl] at hm
    exact hm
  · intro hm
    rw [(spl_iff (hs _ hm)).mpr rfl]
    exact hm
theorem kinds_V : ([V.str "come", V.str "go", V.str "die", V.str "stand", V.str "open"] : List V) = nmsV kinds := by
  rw [lit_come, lit_go, lit_die, lit_stand, lit_open]
  rfl
theorem ok_read_event (S : Top K mg) : Has P w K mg base (L2.CX P w) "read_event" 8 P_read_event (sp_read_event K) := by
  refine has_ofX (g_read_event S) (fn_read_event S) sc_read_event bi_read_event (fun vs H Q E h => ?_) (fun cdv A outer s H vs Q E hr h => ?_)
  · obtain ⟨r, q, el, h, l, t, i, f, rfl, _⟩ := h
    rfl
  · obtain ⟨r, q, el, h, l, t, i, f, rfl, hR, ht, hi, hRec, hF, hA, k1, k2⟩ := h
    refine ⟨_, (pss_cons (ps_set (i := 3) sc_read_event.nd rfl (Or.inl rfl) (pe_m0 K (pv 0) (ok_Reader_shown S) (hr.mono (by omega))))
      (pss_cons (ps_if (PW.pt (pw_or (pt_cmpR op_eq (pe_callB (cLen K) (by rfl) (n_len S) PySem.boot_len (pa_cons (pe_f K (pv 1)) pa_nil)) (pe_gi (g_MOST_EVENTS S) rfl) (nomark _)) (pw_or1 (pt_cmpR (niS K) (pv 3) (pe_tup (pa_cons (pe_gs (g_COME S) rfl) (pa_cons (pe_gs (g_GO S) rfl) (pa_cons (pe_gs (g_DIE S) rfl) (pa_cons (pe_gs (g_STAND S) rfl) (pa_cons (pe_gs (g_UNLOCK S) rfl) pa_nil)))))) (by rfl)))))
      (pss_one (ps_expr (pe_mS0 K (pv 0) (ok_Reader_refuse S) (hr.mono (by omega)) (takes_of rfl rfl rfl rfl)))) pss_nil)
      (pss_cons (ps_set (i := 4) sc_read_event.nd rfl (Or.inl rfl) (pe_mkK K (ok_Event S) (hr.mono (by omega)) rfl (pa_cons (pv 3) (pa_cons (pe_hS (ok_read_event_officers S) (hr.mono (by omega)) rfl (takes_of rfl rfl rfl rfl) (pa_cons (pv 0) (pa_cons (pe_f K (pv 1)) (pa_cons (pv 3) pa_nil)))) pa_nil))))
      (pss_cons (ps_if (pt_not (pt_val (pe_h (ok_may_be S) (hr.mono (by omega)) rfl (pa_cons (pv 2) (pa_cons (pe_f K (pe_f K (pv 1))) (pa_cons (pv 4) pa_nil))))))
      (pss_one (ps_expr (pe_mS0 K (pv 0) (ok_Reader_refuse S) (hr.mono (by omega)) (takes_of rfl rfl rfl rfl)))) pss_nil)
      (pss_cons (ps_expr (pe_m0 K (pv 0) (ok_Reader_go_on S) (hr.mono (by omega))))
      (pss_one (ps_ret (pv 4)))))))), ?_⟩
    obtain ⟨wd, hw, hpl, hdr⟩ := ws_at hi
    have h6 : count f ≤ 6 := hF.names.few
    obtain ⟨nok, nst⟩ := now_ok h6 hF.valid
    refine q_asg (ev_shown hR hw rfl) fun H1 e1 => ?_
    have hR1 := hR.ex e1
    obtain ⟨dx, nl, ru, hq, hPN, hPR, hPE, hne⟩ := hRec.ex e1
    obtain ⟨ps, hel, hps⟩ := id hPE
    have hlen := paired_len hps
    refine q_when (b := decide (f.events.length = 60) || !kinds.contains wd.2) (et_or (et_is (et_test (ev_op (ev_len (ev_fld (ev_var rfl) hq (cl_Record S) (na_Record_events S) (rec_events _ _ _)) (sq_of hel)) ev_c (rv_eq rfl))) ?_) fun _ => et_is (et_test (ev_niU (ev_var rfl) (eu_tup (ea_cons ev_c (ea_cons ev_c (ea_cons ev_c (ea_cons ev_c (ea_cons ev_c ea_nil))))) (by simp)) rfl (by rfl))) ?_) (fun hb H2 e2 => ?_) fun hb H2 e2 => ?_
    · rw [dec_int, List.length_map, hlen]
      exact decide_eq_decide.mpr (by omega)
    · rw [kinds_V, inV_nms, kinds_spl]
    · have hR2 := hR1.ex e2
      refine s_refuse hR2 hw rfl (RaisedB.mono (k1 _ ?_) (Ex.b (e1.trans e2)) hR.there hR2.there)
      rcases hdr with ⟨hd, _⟩ | ⟨hd, hwd, _⟩
      · rw [hd]
        refine event_no ?_
        rcases Bool.or_eq_true_iff.mp hb with h | h
        · exact .inr (by have := of_decide_eq_true h; omega)
        · exact .inl (by simpa using h)
      · rw [hd, hwd]
        rfl
    obtain ⟨hb1, hb2⟩ := Bool.or_eq_false_iff.mp hb
    have hl60 : f.events.length < 60 := by
      have := of_decide_eq_false hb1
      have := hF.few
      omega
    have hk : kinds.contains wd.2 = true := by simpa using hb2
    obtain ⟨hd, hil⟩ : (cut 0 t).drop i = wd :: (cut 0 t).drop (i + 1) ∧ i < (cut 0 t).length := by
      rcases hdr with h | ⟨_, h, _⟩
      · exact h
      · rw [h] at hk
        exact absurd hk (show ¬ (kinds.contains [] = true) by decide +kernel)
    have hsp : spl wd.2 = wd.2 := (spl_iff ((show ∀ k ∈ kinds, k.all sgB = true by decide +kernel) _ (List.contains_iff_mem.mp hk))).mpr rfl
    have hX : eventIn f t.length ((cut 0 t).drop i) = (evIn f t.length wd.2 ((cut 0 t).drop i) >>= fun z => if mayBe f (now f) z.1 = true then .ok (z.1, z.2.drop 1) else .error (placeOf t.length z.2)) := by
      rw [hd]
      exact event_turn hk hl60
    have hR2 := hR1.ex e2
    have e12 : Ex H H2 := e1.trans e2
    rw [hsp]
    refine q_set ⟨_, rfl, _, rfl, ev_fld (ev_var rfl) (e2 _ _ hq) (cl_Record S) (na_Record_names S) (rec_names _ _ _) H2 (Ex.refl H2) _ fun H3 e3 => ⟨_, rfl, r, nl, t, i, f, wd.2, rfl, hR2.ex e3, ht, hil, hPN.ex (e2.trans e3), hk, fun n hn => RaisedB.mono (k1 n (by rw [hX, hn]; rfl)) (Ex.b (e12.trans e3)) hR.there (hR2.ex e3).there, fun x rest hx hkb hin po H4 j hpo eb4 h4 hR4 hij hjl hrest => fun p dp hp hdp ne => ⟨p, dp, [.str (st wd.2), .ref po], rfl, rfl, upd_same, rfl, ?_⟩⟩⟩
    have e13 : Ex H H3 := e12.trans e3
    have hR3 := hR2.ex e3
    have eb14 : ExB r H H4 := (Ex.b e13).trans eb4
    have e5 : Ex H4 (upd (upd (upd H4 dp (.own p)) p (.ins (He.ga K "Event") dp [])) p (.ins (He.ga K "Event") dp (nmEvent.zip [.str (st wd.2), .ref po]))) := fun b o hb => by
      rw [upd_ne (ne_of_none hb hp), upd_ne (ne_of_none hb hp), upd_ne (ne_of_none hb hdp)]
      exact hb
    have hev : upd (upd (upd H4 dp (.own p)) p (.ins (He.ga K "Event") dp [])) p (.ins (He.ga K "Event") dp (nmEvent.zip [.str (st wd.2), .ref po])) p = some (.ins (He.ga K "Event") dp (nmEvent.zip [.str (st wd.2), .ref po])) := upd_same
    have eb15 := eb14.trans (Ex.b e5)
    have hR5 := hR4.ex e5
    have hev : _ = some (HO.ins (He.ga K "Event") dp (nmEvent.zip [.str (st (kindB x)), .ref po])) := hev.trans (by rw [hkb])
    obtain ⟨dx5, nl5, ru5, hq5, hPN5, ⟨dr5, tb5, hru5, hT5⟩, hPE5, _⟩ := hR.record hRec eb15
    have hE5 : EventAt K _ p x := ⟨dp, po, hev, e5 _ _ h4⟩
    refine q_when (b := !mayBe f (now f) x) (et_not (et_B (ev_h (ea_cons (ev_var rfl) (ea_cons (ev_fld (ev_fld (ev_var rfl) hq5 (cl_Record S) (na_Record_rule S) (rec_rule _ _ _)) hru5 (cl_Rule S) (na_Rule_allowed S) (rule_al _ _ _)) (ea_cons (ev_var rfl) ea_nil))) fun H6 e6 Q6 E6 q6 => ⟨h, l, tb5, p, now f, f, x, rfl, (hR.hall hA eb15).ex e6, nok, hT5.ex e6, hE5.ex e6, hin, q6⟩))) (fun hb H6 e6 => ?_) fun hb H6 e6 => ?_
    · have hno : ¬ (mayBe f (now f) x = true) := by simpa using hb
      obtain ⟨wd2, hw2, hpl2, _⟩ := ws_at (t := t) (i := j) (by omega)
      refine s_refuse (hR5.ex e6) hw2 rfl (RaisedB.mono (k1 _ ?_) (eb15.trans (Ex.b e6)) hR.there (hR5.ex e6).there)
      rw [hX, hx, bindOk, hrest, if_neg hno, hpl2]
    · have hyes : mayBe f (now f) x = true := by simpa using hb
      refine q_goon (hR5.ex e6) rfl fun H7 eb7 hR7 => ?_
      have hpr : p ≠ r := fun z => by rw [z] at hp; exact hR4.there hp
      have hpor : po ≠ r := fun z => by rw [z] at hpo; exact hR3.there hpo
      refine s_ret (ev_var rfl) fun H8 e8 => k2 x _ (by rw [hX, hx, bindOk, if_pos hyes]) hyes hl60 p dp po H8 (j + 1) (eb14.fresh hR.there hp hR4.there) (fresh_back e13 hpo) ((eb15.trans (Ex.b e6)).trans (eb7.trans (Ex.b e8))) (e8 _ _ (eb7 _ _ hpr (e6 _ _ hev))) (e8 _ _ (eb7 _ _ hpor (e6 _ _ (e5 _ _ h4)))) (hR7.ex e8) (by omega) hjl (by rw [hrest, drop1])
end
end CK
/-! reading.py: one event alone -/
namespace CK
open PySem PySem.Spec PyProof.Rows L2 Evl
open Vbpxaf (bit count opens File nameOf Now mayBe done acting may W RESERVED officersIn officerIn listIn ruleIn orIn partIn andIn oneIn eventIn now)
open VbpxCore (isName isLetter cut placeOf ahead must natOf)
section
variable {P : Program} {w : World} {K : PySem.W.Frag} {mg : Str → Option Value} {base : Heap}
theorem ExB.new {r : Addr} {H H' : Hp} (e : ExB r H H') (h : H r = none) : Ex H H' := fun b o hb => e b o (ne_of_none hb h) hb
/-- a fault that a text's reader made is one beside what was there -/
theorem RaisedB.of {r : Addr} {n : Nat} {H H1 : Hp} {E : XK} (h : Raised K "Fault" (faultF (n : Int)) H E) (e : Ex H H1) (hr : H r = none) : RaisedB K r n H1 E := fun d H' h1 h2 h3 => h d H' (fresh_back e h1) (fun b o hb => h2 b o (ne_of_none hb hr) (e _ _ hb)) h3
def sp_read_one_event (K : PySem.W.Frag) : Sp := fun vs H Q E => ∃ (a q el : Addr) (t : List Nat) (f : File), vs = [.ref a, .ref q] ∧ SqL K H a (bts t) ∧ t.length ≤ 2000 ∧ RecordAt K H q el f ∧ FileOk f ∧
  (∀ n, Vbpxaf.readEvent f t = .error n → Raised K "Fault" (faultF (n : Int)) H E) ∧
  (∀ x, Vbpxaf.readEvent f t = .ok x → mayBe f (now f) x = true → f.events.length < 60 → ∀ p dp po H2, H p = none → H po = none → Ex H H2 → H2 p = some (.ins (He.ga K "Event") dp (nmEvent.zip [.str (st (kindB x)), .ref po])) → H2 po = some (.lst (nats (offs x))) → Q (.ref p) H2)
theorem hall_now {H : Hp} {h l : Addr} {f : File} (hA : HallAt K H h l (f.events.foldl done Vbpxaf.begin_)) : HallAt K H h l (now f) := by rw [now_eq]; exact hA
theorem ok_read_one_event (S : Top K mg) : Has P w K mg base (L2.CX P w) "read_one_event" 9 P_read_one_event (sp_read_one_event K) := by
  refine has_ofX (g_read_one_event S) (fn_read_one_event S) sc_read_one_event bi_read_one_event (fun vs H Q E h => ?_) (fun cdv A outer s H vs Q E hr h => ?_)
  · obtain ⟨a, q, el, t, f, rfl, _⟩ := h
    rfl
  · obtain ⟨a, q, el, t, f, rfl, hL, ht, hRec, hF, k1, k2⟩ := h
    refine ⟨_, (pss_cons (ps_set (i := 2) sc_read_one_event.nd rfl (Or.inl rfl) (pe_mkK K (ok_Reader S) (hr.mono (by omega)) rfl (pa_cons (pv 0) pa_nil)))
      (pss_cons (ps_set (i := 3) sc_read_one_event.nd rfl (Or.inl rfl) (pe_hS (ok_read_event S) (hr.mono (by omega)) rfl (takes_of rfl rfl rfl rfl) (pa_cons (pv 2) (pa_cons (pv 1) (pa_cons (pe_h (ok_hall_behind S) (hr.mono (by omega)) rfl (pa_cons (pe_f K (pv 1)) pa_nil)) pa_nil)))))
      (pss_cons (ps_expr (pe_mS0 K (pv 2) (ok_Reader_finish S) (hr.mono (by omega)) (takes_of rfl rfl rfl rfl)))
      (pss_one (ps_ret (pv 3)))))), ?_⟩
    have h6 : count f ≤ 6 := hF.names.few
    refine q_set (er_reader (ev_var rfl) hL ht fun r H1 hr0 e1 hR => ?_)
    have hR1 : ReaderAt K H1 r (wsOf t) 0 := hR
    obtain ⟨dx, nl, ru, hq, hPN, hPR, hPE, hne⟩ := hRec.ex e1
    refine q_set ⟨_, rfl, _, rfl, ev_fld (ev_var rfl) hq (cl_Record S) (na_Record_events S) (rec_events _ _ _) H1 (Ex.refl H1) _ fun H2 e2 => ⟨el, f, f.events, rfl, hPE.ex e2, h6, hF.valid, hF.few, fun h l H3 hh hl e3 hA => ?_⟩⟩
    have e23 := e2.trans e3
    have e13 := e1.trans e23
    have hR3 := hR1.ex e23
    have hX : Vbpxaf.readEvent f t = (eventIn f t.length ((cut 0 t).drop 0) >>= fun z => match z.2 with
      | [] => pure z.1
      | w :: _ => .error w.1) := rfl
    refine ⟨r, q, el, h, l, t, 0, f, rfl, hR3, ht, Nat.zero_le _, hRec.ex e13, hF, hall_now hA, fun n hn => RaisedB.of (k1 n (by rw [hX, hn]; rfl)) e13 hr0, fun x rest hx hm h60 p dp po H4 j hp hpo eb4 hev hoff hR4 hj hjl hrest => ?_⟩
    obtain ⟨wd, hw, hpl, hdr⟩ := ws_at hjl
    have e14 : Ex H H4 := (((Ex.b e13 : ExB r H H3)).trans eb4).new hr0
    have hlen : (wsOf t).length = (cut 0 t).length + 1 := by simp [wsOf]
    obtain ⟨dr, wl, hrr, _⟩ := id hR4
    refine ⟨_, rfl, r, dr, _, rfl, hrr, reader_no _ _ (by decide +kernel) (by decide +kernel), r, wsOf t, j, wd, rfl, hR4, hw, fun hend H5 eb5 hR5 => ?_, fun hend => RaisedB.of (k1 _ ?_) e14 hr0⟩
    · have hjr : rest = [] := by
        rw [hrest, List.drop_eq_nil_iff]
        omega
      have hpr : p ≠ r := fun z => by rw [z] at hp; exact hR3.there hp
      have hpor : po ≠ r := fun z => by rw [z] at hpo; exact hR3.there hpo
      refine s_ret (ev_var rfl) fun H6 e6 => k2 x (by rw [hX, hx, bindOk, hjr]; rfl) hm h60 p dp po H6 (fresh_back e13 hp) (fresh_back e13 hpo) ((((Ex.b e14 : ExB r H H4).trans eb5).new hr0).trans e6) (e6 _ _ (eb5 _ _ hpr hev)) (e6 _ _ (eb5 _ _ hpor hoff))
    · rcases hdr with ⟨hd, hjlt⟩ | ⟨_, _, hje⟩
      · rw [hX, hx, bindOk, hrest, hd]
      · exact absurd (by omega) hend
end
end CK
/-! reading.py: a file, what is needed -/
namespace CK
open PySem PySem.Spec PyProof.Rows L2 Evl
open Vbpxaf (bit count opens File nameOf Now mayBe done acting may W RESERVED officersIn officerIn listIn ruleIn orIn partIn andIn oneIn eventIn now ruleWords put linesIn readFile)
open VbpxCore (isName isLetter cut placeOf ahead must natOf)
section
variable {P : Program} {w : World} {K : PySem.W.Frag} {mg : Str → Option Value} {base : Heap}
theorem paired_end {α β : Type} {F : α → β → Prop} : ∀ {l : List α} {m : List β} {a : α} {b : β}, Paired F l m → F a b → Paired F (l ++ [a]) (m ++ [b])
  | _, _, _, _, .nil, h => .cons h .nil
  | _, _, _, _, .cons x r, h => .cons x (paired_end r h)
/-- the reader has no part in the hall -/
theorem ReaderAt.rm {H : Hp} {r h l : Addr} {ws : Wds} {i : Nat} {n : Now} (hR : ReaderAt K H r ws i) (hA : HallAt K H h l n) (hw : ws ≠ []) : ReaderAt K (CK.rm H h l) r ws i := by
  obtain ⟨⟨dh, hh⟩, ps, hl, hps⟩ := hA
  obtain ⟨dx, wl, h1, qs, h2, h3⟩ := hR
  refine ⟨dx, wl, rm_of (ins_apart h1 hh (by decide +kernel)) (Ne.symm (lst_apart hl h1)) h1, qs, rm_of (lst_apart h2 hh) (fun z => ?_) h2, L2.Paired.mapP h3 fun q x z => ?_⟩
  · rw [z, hl] at h2
    have h4 := Option.some.inj h2
    injection h4 with h5
    cases h3 with
    | nil => exact hw rfl
    | cons hx _ =>
      generalize n.stands = ss at hps
      cases hps with
      | nil => cases h5
      | cons hy _ =>
        rw [List.map_cons, List.map_cons, List.cons.injEq] at h5
        have h6 := h5.1
        injection h6 with h7
        obtain ⟨d, hd⟩ := hx
        unfold PairAt at hy
        rw [h7, hd] at hy
        cases hy
  · obtain ⟨d, hd⟩ := z
    exact ⟨d, rm_of (ins_apart hd hh (by decide +kernel)) (Ne.symm (lst_apart hl hd)) hd⟩
/-! ### what depends on the officers only -/
theorem words_congr {f g : File} (h : f.officers = g.officers) : ∀ r : Vbpxaf.Rule, ruleWords f r = ruleWords g r
  | .who n => by simp [Vbpxaf.ruleWords, Vbpxaf.nameOf, h]
  | .both a b => by rw [Vbpxaf.ruleWords, Vbpxaf.ruleWords, words_congr h a, words_congr h b]
  | .either a b => by rw [Vbpxaf.ruleWords, Vbpxaf.ruleWords, words_congr h a, words_congr h b]
  | .some_ k l => by
    have : nameOf f = nameOf g := by
      funext n
      simp [Vbpxaf.nameOf, h]
    rw [Vbpxaf.ruleWords, Vbpxaf.ruleWords, this]
  | .anybody => rfl
  | .nobody => rfl
theorem ok_congr {f g : File} (h : f.officers = g.officers) : ∀ {r : Vbpxaf.Rule}, RuleOk f r → RuleOk g r
  | .who n, z => by
    have z' : n < f.officers.length := z
    show n < g.officers.length
    rw [← h]
    exact z'
  | .both a b, z => ⟨ok_congr h z.1, ok_congr h z.2⟩
  | .either a b, z => ⟨ok_congr h z.1, ok_congr h z.2⟩
  | .some_ k l, z => ⟨z.1, z.2.1, z.2.2.1, z.2.2.2.1, fun n hn => by
    have z' : n < f.officers.length := z.2.2.2.2 n hn
    show n < g.officers.length
    rw [← h]
    exact z'⟩
  | .anybody, _ => trivial
  | .nobody, _ => trivial
theorem Names.congr {f g : File} (h : f.officers = g.officers) (hn : Names f) : Names g := ⟨h ▸ hn.few, h ▸ hn.good, h ▸ hn.nodup⟩
theorem RuleAt.congr {H : Hp} {p : Addr} {f g : File} {rl : Vbpxaf.Rule} (h : f.officers = g.officers) (hA : RuleAt K H p f rl) : RuleAt K H p g rl := by
  have h1 : txt f rl = txt g rl := by
    unfold txt
    rw [words_congr h]
  have h2 : count f = count g := by
    unfold Vbpxaf.count
    rw [h]
  unfold RuleAt at hA ⊢
  rw [← h1, ← h2]
  exact hA
theorem NamesAt.congr {H : Hp} {a : Addr} {f g : File} (h : f.officers = g.officers) (hN : NamesAt K H a f) : NamesAt K H a g := ⟨by rw [← h]; exact hN.1, hN.2.congr h⟩
theorem may_put (f : File) (x : Vbpxaf.Event) (n : Now) (e : Vbpxaf.Event) : mayBe (put f x) n e = mayBe f n e := by cases e <;> rfl
theorem now_put (f : File) (x : Vbpxaf.Event) : now (put f x) = done (now f) x := by
  rw [now_eq, now_eq]
  show (f.events ++ [x]).foldl done _ = _
  rw [List.foldl_append]
  rfl
theorem put_ok {f : File} {x : Vbpxaf.Event} (hF : FileOk f) (hm : mayBe f (now f) x = true) (h60 : f.events.length < 60) : FileOk (put f x) := by
  refine ⟨Names.congr (f := f) rfl hF.names, ok_congr (f := f) (g := put f x) rfl hF.rule, hF.size, fun i e he => ?_, ?_⟩
  · rw [may_put]
    have he' : (f.events ++ [x])[i]? = some e := he
    show mayBe f (((f.events ++ [x]).take i).foldl done Vbpxaf.begin_) e = true
    rcases Nat.lt_or_ge i f.events.length with hi | hi
    · rw [List.getElem?_append_left hi] at he'
      rw [List.take_append_of_le_length (by omega)]
      exact hF.valid i e he'
    · rw [List.getElem?_append_right hi] at he'
      have hi0 : i - f.events.length = 0 := by
        have := (List.getElem?_eq_some_iff.mp he').1
        simp at this
        omega
      have hie : i = f.events.length := by omega
      rw [hi0] at he'
      cases he'
      rw [hie, List.take_left' rfl, ← now_eq]
      exact hm
  · show (f.events ++ [x]).length ≤ 60
    simp
    omega
/-- one more event is put to the record's -/
theorem RecordAt.push {H : Hp} {q el p dp po : Addr} {f : File} {x : Vbpxaf.Event} (h : RecordAt K H q el f) (hp : H p = some (.ins (He.ga K "Event") dp (nmEvent.zip [.str (st (kindB x)), .ref po]))) (ho : H po = some (.lst (nats (offs x)))) (hne : po ≠ el) :
    ∃ ps : List Addr, H el = some (.lst (ps.map V.ref)) ∧ ps.length = f.events.length ∧ RecordAt K (upd H el (.lst (ps.map V.ref ++ [.ref p]))) q el (put f x) := by
  obtain ⟨dx, nl, ru, hq, hN, ⟨dr, tb, hru, h6, hT⟩, ⟨ps, hel, hps⟩, hnl⟩ := h
  have hi : ∀ {b C d fs}, H b = some (.ins C d fs) → b ≠ el := fun {b C d fs} hb => Ne.symm (lst_apart hel hb)
  refine ⟨ps, hel, paired_len hps, dx, nl, ru, by rw [upd_ne (hi hq)]; exact hq, ⟨by rw [upd_ne hnl]; exact hN.1, Names.congr (f := f) rfl hN.2⟩, RuleAt.congr (f := f) rfl ⟨dr, tb, by rw [upd_ne (hi hru)]; exact hru, h6, ?_⟩, ⟨ps ++ [p], by rw [upd_same]; simp, ?_⟩, hnl⟩
  · rcases hT with (hT | ⟨o, hT⟩) | hT
    · refine sq_of ?_
      rw [upd_ne fun z => ?_]
      · exact hT
      · rw [z, hel] at hT
        have h4 := Option.some.inj hT
        injection h4 with h5
        have h7 := congrArg List.length h5
        rw [tab_len] at h7
        cases ps with
        | nil =>
          have := Nat.two_pow_pos (count f)
          simp at h7
          omega
        | cons a ps =>
          unfold tab at h5
          cases hh : List.range (2 ^ count f) with
          | nil => rw [hh] at h5; cases h5
          | cons c cs =>
            rw [hh, List.map_cons, List.map_cons, List.cons.injEq] at h5
            cases h5.1
    · refine .inl (.inr ⟨o, ?_⟩)
      rw [upd_ne fun z => ?_]
      · exact hT
      · rw [z, hel] at hT
        cases hT
    · exact .inr hT
  · have hold : ∀ y b, EventAt K H b y → ps ≠ [] → EventAt K (upd H el (.lst (ps.map V.ref ++ [.ref p]))) b y := fun y b z hne' => by
      obtain ⟨d, m, h1, h2⟩ := z
      refine ⟨d, m, by rw [upd_ne (hi h1)]; exact h1, ?_⟩
      rw [upd_ne fun z => ?_]
      · exact h2
      · rw [z, hel] at h2
        have h4 := Option.some.inj h2
        injection h4 with h5
        cases ps with
        | nil => exact hne' rfl
        | cons a ps =>
          cases hh : offs y with
          | nil => rw [hh] at h5; cases h5
          | cons c cs =>
            rw [hh] at h5
            unfold nats at h5
            rw [List.map_cons, List.map_cons, List.cons.injEq] at h5
            cases h5.1
    have hnew : EventAt K (upd H el (.lst (ps.map V.ref ++ [.ref p]))) p x := ⟨dp, po, by rw [upd_ne (hi hp)]; exact hp, by rw [upd_ne hne]; exact ho⟩
    show Paired _ (ps ++ [p]) (f.events ++ [x])
    refine paired_end ?_ hnew
    cases ps with
    | nil =>
      generalize f.events = es at hps
      cases hps
      exact .nil
    | cons a ps => exact L2.Paired.mapP hps fun b y z => hold y b z (by simp)
end
end CK
/-! reading.py: a file -/
namespace CK
open PySem PySem.Spec PyProof.Rows L2 Evl
open Vbpxaf (bit count opens File nameOf Now mayBe done acting may W RESERVED officersIn officerIn listIn ruleIn orIn partIn andIn oneIn eventIn now ruleWords put linesIn readFile)
open VbpxCore (isName isLetter cut placeOf ahead must natOf)
section
variable {P : Program} {w : World} {K : PySem.W.Frag} {mg : Str → Option Value} {base : Heap}
def f0 (l : List (List Nat)) (r : Vbpxaf.Rule) : File := { officers := l, rule := r, events := [] }
def fileEnd (e : Nat) (l : List (List Nat)) (ws : Wds) : Except Nat File := do
  let ws ← must e (W "rule") ws
  let (r, ws) ← ruleIn (f0 l .nobody) e (5 * ws.length + 5) Vbpxaf.DEEP ws
  linesIn e (ws.length + 1) (f0 l r) ws
theorem file_turn (t : List Nat) : readFile t = (must t.length (W "officers") (cut 0 t) >>= fun ws => officersIn t.length 6 [] ws >>= fun z => must t.length [10] z.2 >>= fun ws => fileEnd t.length z.1 ws) := rfl
theorem off_stop {e g : Nat} {l : List (List Nat)} {ws : Wds} (h : Vbpxaf.ends ws = true) : officersIn e g l ws = .ok (l, ws) := by
  cases g with
  | zero => rfl
  | succ g =>
    conv => lhs; unfold Vbpxaf.officersIn
    rw [if_pos h]
/-- behind the names: a line's end, or a fault just there -/
theorem names_end {t : List Nat} {j : Nat} {l : List (List Nat)} {wd : Nat × List Nat} {α : Type} {k : List (List Nat) → Wds → Except Nat α} (hj : j ≤ (cut 0 t).length) (hw : (wsOf t)[j]? = some wd) (hl : Good l) (hc : canTell wd.2 l = false) :
    (wd.2 = [10] → j < (cut 0 t).length ∧ (officersIn t.length (6 - l.length) l ((cut 0 t).drop j) >>= fun z => must t.length [10] z.2 >>= fun ws => k z.1 ws) = k l ((cut 0 t).drop (j + 1))) ∧
    (wd.2 ≠ [10] → (officersIn t.length (6 - l.length) l ((cut 0 t).drop j) >>= fun z => must t.length [10] z.2 >>= fun ws => k z.1 ws) = .error wd.1) := by
  have hm := must_at (k := [10]) (by simp) hj hw
  constructor
  · intro h10
    obtain ⟨hjl, hm1⟩ := hm.1 h10
    have he : Vbpxaf.ends ((cut 0 t).drop j) = true := by
      unfold Vbpxaf.ends
      rw [ahead_iff (k := [10]) (by simp) hj hw, decide_eq_true h10, Bool.or_true]
    rw [off_stop he]
    refine ⟨hjl, ?_⟩
    show (must t.length [10] ((cut 0 t).drop j) >>= _) = _
    rw [hm1]
    rfl
  · intro h10
    have hm2 := hm.2 h10
    rcases ws_cases hj with ⟨h1, h2, h3⟩ | ⟨wd', h1, h2, h3⟩
    · rw [off_stop (by rw [h1]; rfl)]
      show (must t.length [10] ((cut 0 t).drop j) >>= _) = _
      rw [hm2]
      rfl
    · rw [hw] at h2
      cases h2
      cases hg : 6 - l.length with
      | zero =>
        show (must t.length [10] ((cut 0 t).drop j) >>= _) = _
        rw [hm2]
        rfl
      | succ g =>
        have he : Vbpxaf.ends ((cut 0 t).drop j) = false := by
          unfold Vbpxaf.ends
          rw [ahead_iff (k := [10]) (by simp) hj hw, decide_eq_false h10, h1]
          rfl
        have hn : Vbpxaf.nameIn t.length (l ++ RESERVED) ((cut 0 t).drop j) = .error wd.1 := by
          rw [h1]
          refine if_neg fun z => ?_
          have hc' : (isNm wd.2 && !l.contains wd.2) = false := by
            unfold canTell at hc
            rw [decide_eq_true (show l.length < 6 by omega)] at hc
            simpa using hc
          have z2 : ¬ (wd.2 ∈ l ++ RESERVED) := fun zz => by
            have := List.contains_iff_mem.mpr zz
            rw [z.2] at this
            cases this
          have z3 : l.contains wd.2 = false := by
            rw [← Bool.not_eq_true, List.contains_iff_mem]
            exact fun zz => z2 (List.mem_append.mpr (.inl zz))
          have z4 : RESERVED.contains wd.2 = false := by
            rw [← Bool.not_eq_true, List.contains_iff_mem]
            exact fun zz => z2 (List.mem_append.mpr (.inr zz))
          unfold isNm at hc'
          rw [z4, z3, z.1] at hc'
          cases hc'
        have ho : officersIn t.length (g + 1) l ((cut 0 t).drop j) = .error wd.1 := by
          conv => lhs; unfold Vbpxaf.officersIn
          rw [he, hn]
          rfl
        rw [ho]
        rfl
theorem lines_stop {e g : Nat} {f : File} : linesIn e (g + 1) f [] = .ok f := rfl
theorem lines_turn {e g : Nat} {f : File} {ws : Wds} (h : ws ≠ []) : linesIn e (g + 1) f ws = (must e [10] ws >>= fun ws => eventIn f e ws >>= fun z => linesIn e g (put f z.1) z.2) := by
  cases ws with
  | nil => exact absurd rfl h
  | cons a b => rfl
theorem ev_atend {σ : L2.St} {H : Hp} {r : Addr} {ws : Wds} {i j : Nat} {E : XK} (hR : ReaderAt K H r ws i) (hw : 0 < ws.length) (h : σ[j]? = some (some (.ref r))) : Ev (tMeth (He.ga K "Reader") "at_end" (sp_at_end K) [] E (tVar j) tNil) σ H (.bl (decide (i + 1 = ws.length))) := fun H1 e1 Q q => by
  obtain ⟨dx, l, h1, h2⟩ := id hR
  exact ⟨_, h, r, dx, _, rfl, e1 _ _ h1, reader_no _ _ (by decide +kernel) (by decide +kernel), r, ws, i, rfl, hR.ex e1, hw, q⟩
/-- the events' list grows beside the reader, beside the hall -/
theorem ReaderAt.push {H : Hp} {r el : Addr} {ws : Wds} {i : Nat} {es : List Vbpxaf.Event} {ps : List Addr} {xs : List V} (hR : ReaderAt K H r ws i) (hw : ws ≠ []) (hel : H el = some (.lst (ps.map V.ref))) (hps : Paired (EventAt K H) ps es) : ReaderAt K (upd H el (.lst xs)) r ws i := by
  obtain ⟨dx, wl, h1, qs, h2, h3⟩ := hR
  refine ⟨dx, wl, by rw [upd_ne (Ne.symm (lst_apart hel h1))]; exact h1, qs, ?_, L2.Paired.mapP h3 fun q x z => ?_⟩
  · rw [upd_ne fun z => ?_]
    · exact h2
    · rw [z, hel] at h2
      have h4 := Option.some.inj h2
      injection h4 with h5
      cases h3 with
      | nil => exact hw rfl
      | cons hx _ =>
        cases hps with
        | nil => cases h5
        | cons hy _ =>
          rw [List.map_cons, List.map_cons, List.cons.injEq] at h5
          have h6 := h5.1
          injection h6 with h7
          obtain ⟨d, hd⟩ := hx
          obtain ⟨d2, m2, hy1, _⟩ := hy
          exact absurd h7 (ins_apart hy1 hd (by decide +kernel))
  · obtain ⟨d, hd⟩ := z
    exact ⟨d, by rw [upd_ne (Ne.symm (lst_apart hel hd))]; exact hd⟩
theorem HallAt.push {H : Hp} {h l el : Addr} {n : Now} {xs ys : List V} (hA : HallAt K H h l n) (hel : H el = some (.lst ys)) (hne : el ≠ l) : HallAt K (upd H el (.lst xs)) h l n := by
  obtain ⟨⟨dh, hh⟩, ps, hl, hps⟩ := hA
  refine ⟨⟨dh, by rw [upd_ne (Ne.symm (lst_apart hel hh))]; exact hh⟩, ps, by rw [upd_ne (Ne.symm hne)]; exact hl, L2.Paired.mapP hps fun q x z => ?_⟩
  have z' : H q = some (.tup [.int (x.1 : Int), .int (x.2 : Int)]) := z
  show upd H el _ q = _
  rw [upd_ne fun y => ?_]
  · exact z'
  · rw [y, hel] at z'
    cases z'
theorem rm_upd {H : Hp} {h l b : Addr} {o : HO} (h1 : b ≠ h) (h2 : b ≠ l) : Ex (upd (rm H h l) b o) (rm (upd H b o) h l) := fun c u hc => by
  by_cases e : c = b
  · subst e
    rw [upd_same] at hc
    exact rm_of h1 h2 (by rw [upd_same]; exact hc)
  · rw [upd_ne e] at hc
    obtain ⟨n1, n2, n3⟩ := rm_at hc
    exact rm_of n1 n2 (by rw [upd_ne e]; exact n3)
theorem ReaderAt.off {H : Hp} {r z : Addr} {ws : Wds} {i : Nat} {zs : List Int} (hR : ReaderAt K H r ws i) (hz : H z = some (.lst (intsV zs))) (hw : ws ≠ []) : ReaderAt K (CK.rm H z z) r ws i := by
  obtain ⟨dx, wl, h1, qs, h2, h3⟩ := hR
  have n1 := Ne.symm (lst_apart hz h1)
  have n2 : wl ≠ z := fun e => by
    rw [e, hz] at h2
    have h4 := Option.some.inj h2
    injection h4 with h5
    cases h3 with
    | nil => exact hw rfl
    | cons hx _ =>
      cases zs with
      | nil => cases h5
      | cons y ys =>
        unfold intsV at h5
        rw [List.map_cons, List.map_cons, List.cons.injEq] at h5
        cases h5.1
  refine ⟨dx, wl, rm_of n1 n1 h1, qs, rm_of n2 n2 h2, L2.Paired.mapP h3 fun q x y => ?_⟩
  obtain ⟨d, hd⟩ := y
  have n3 := Ne.symm (lst_apart hz hd)
  exact ⟨d, rm_of n3 n3 hd⟩
theorem lit_line : ("\n" : Str) = st [10] := by decide +kernel
def sp_read_file (K : PySem.W.Frag) : Sp := fun vs H Q E => ∃ (a z : Addr) (t : List Nat) (zs : List Int), vs = [.ref a] ∧ SqL K H a (bts t) ∧ t.length ≤ 2000 ∧ H z = some (.lst (intsV zs)) ∧
  (∀ n, readFile t = .error n → Raised K "Fault" (faultF (n : Int)) H E) ∧
  (∀ f, readFile t = .ok f → FileOk f → ∀ q el H2, H q = none → H el = none → Ex H H2 → RecordAt K (rm H2 z z) q el f → Q (.ref q) H2)
theorem ok_read_file (S : Top K mg) : Has P w K mg base (L2.CX P w) "read_file" 45 P_read_file (sp_read_file K) := by
  refine has_ofX (g_read_file S) (fn_read_file S) sc_read_file bi_read_file (fun vs H Q E h => ?_) (fun cdv A outer s H vs Q E hr h => ?_)
  · obtain ⟨a, z, t, zs, rfl, _⟩ := h
    rfl
  · obtain ⟨a, z, t, zs, rfl, hL, ht, hz, k1, k2⟩ := h
    refine ⟨_, (pss_cons (ps_set (i := 1) sc_read_file.nd rfl (Or.inl rfl) (pe_mkK K (ok_Reader S) (hr.mono (by omega)) rfl (pa_cons (pv 0) pa_nil)))
      (pss_cons (ps_expr (pe_mS K (pv 1) (ok_Reader_expect S) (hr.mono (by omega)) (takes_of rfl rfl rfl rfl) (pa_cons pe_str pa_nil)))
      (pss_cons (ps_set (i := 2) sc_read_file.nd rfl (Or.inl rfl) (pe_h (ok_read_names S) (hr.mono (by omega)) rfl (pa_cons (pv 1) pa_nil)))
      (pss_cons (ps_expr (pe_mS K (pv 1) (ok_Reader_expect S) (hr.mono (by omega)) (takes_of rfl rfl rfl rfl) (pa_cons (pe_gs (g_LINE_END_WORD S) rfl) pa_nil)))
      (pss_cons (ps_expr (pe_mS K (pv 1) (ok_Reader_expect S) (hr.mono (by omega)) (takes_of rfl rfl rfl rfl) (pa_cons pe_str pa_nil)))
      (pss_cons (ps_set (i := 3) sc_read_file.nd rfl (Or.inl rfl) (pe_mkK K (ok_Record S) (hr.mono (by omega)) rfl (pa_cons (pv 2) (pa_cons (pe_hS (ok_read_rule S) (hr.mono (by omega)) rfl (takes_of rfl rfl rfl rfl) (pa_cons (pv 1) (pa_cons (pv 2) (pa_cons pe_int pa_nil)))) (pa_cons (pe_lst pa_nil) pa_nil)))))
      (pss_cons (ps_set (i := 4) sc_read_file.nd rfl (Or.inl rfl) (pe_mkK0 K (ok_Hall S) (hr.mono (by omega)) rfl))
      (pss_cons (ps_while (passes_of rfl) (pt_not (pt_val (pe_m0 K (pv 1) (ok_Reader_at_end S) (hr.mono (by omega)))))
      (pss_cons (ps_expr (pe_mS K (pv 1) (ok_Reader_expect S) (hr.mono (by omega)) (takes_of rfl rfl rfl rfl) (pa_cons (pe_gs (g_LINE_END_WORD S) rfl) pa_nil)))
      (pss_cons (ps_set (i := 5) sc_read_file.nd rfl (Or.inl rfl) (pe_hS (ok_read_event S) (hr.mono (by omega)) rfl (takes_of rfl rfl rfl rfl) (pa_cons (pv 1) (pa_cons (pv 3) (pa_cons (pv 4) pa_nil)))))
      (pss_cons (ps_expr (pe_h (ok_happen S) (hr.mono (by omega)) rfl (pa_cons (pv 4) (pa_cons (pv 5) pa_nil))))
      (pss_one (ps_expr (pe_bmK K PySem.F.plainAttrs_list PySem.F.slot_list_append PySem.F.type_list_append mt_append (pe_f K (pv 3)) (pa_cons (pv 5) pa_nil))))))))
      (pss_one (ps_ret (pv 3))))))))))), ?_⟩
    have hcl := cut_len t 0
    have hwl : (wsOf t).length = (cut 0 t).length + 1 := by simp [wsOf]
    refine q_set (er_reader (ev_var rfl) hL ht fun r H1 hr0 e1 hR => ?_)
    have hR1 : ReaderAt K H1 r (wsOf t) 0 := hR
    -- officers
    obtain ⟨w0, hw0, _, _⟩ := ws_at (t := t) (i := 0) (Nat.zero_le _)
    have hm0 := must_at (k := W "officers") (by decide +kernel) (Nat.zero_le _) hw0
    refine q_expect (b := W "officers") (by decide +kernel) hR1 hw0 rfl (fun h2 H2 eb2 hR2 => ?_) fun h2 => RaisedB.of (k1 _ ?_) e1 hr0
    rotate_left
    · rw [file_turn]
      have := hm0.2 fun z => h2 ((spl_iff (by decide +kernel)).mpr z)
      rw [List.drop_zero] at this
      rw [this]
      rfl
    obtain ⟨hc0, hm0'⟩ := hm0.1 ((spl_iff (by decide +kernel)).mp h2)
    rw [List.drop_zero] at hm0'
    have e2 : Ex H H2 := ((Ex.b e1 : ExB r H H1).trans eb2).new hr0
    have hr2 := hR2.there
    -- names
    refine q_set ⟨_, rfl, r, t, 1, rfl, hR2, ht, hc0, fun nl H3 l j hnl eb3 h3 hR3 hj1 hj hG hoff hcan => ?_⟩
    have e3 : Ex H H3 := ((Ex.b e2 : ExB r H H2).trans eb3).new hr0
    have hX3 : readFile t = (officersIn t.length (6 - l.length) l ((cut 0 t).drop j) >>= fun z => must t.length [10] z.2 >>= fun ws => fileEnd t.length z.1 ws) := by
      rw [file_turn, hm0', bindOk]
      show (officersIn t.length 6 [] ((cut 0 t).drop 1) >>= _) = _
      rw [hoff]
    obtain ⟨w3, hw3, _, _⟩ := ws_at hj
    obtain ⟨hn1, hn2⟩ := names_end (k := fun l ws => fileEnd t.length l ws) hj hw3 hG (hcan _ hw3)
    refine q_expect (b := [10]) lit_line hR3 hw3 rfl (fun h4 H4 eb4 hR4 => ?_) fun h4 => RaisedB.of (k1 _ ?_) e3 hr0
    rotate_left
    · rw [hX3]
      exact hn2 fun z => h4 (spl_line.mpr z)
    obtain ⟨hjl, hX4⟩ := hn1 (spl_line.mp h4)
    rw [← hX3] at hX4
    have e4 : Ex H H4 := ((Ex.b e3 : ExB r H H3).trans eb4).new hr0
    obtain ⟨w4, hw4, _, _⟩ := ws_at (t := t) (i := j + 1) hjl
    have hm4 := must_at (k := W "rule") (by decide +kernel) hjl hw4
    refine q_expect (b := W "rule") (by decide +kernel) hR4 hw4 rfl (fun h5 H5 eb5 hR5 => ?_) fun h5 => RaisedB.of (k1 _ ?_) e4 hr0
    rotate_left
    · rw [hX4]
      unfold fileEnd
      rw [hm4.2 fun z => h5 ((spl_iff (by decide +kernel)).mpr z)]
      rfl
    obtain ⟨hjl2, hm4'⟩ := hm4.1 ((spl_iff (by decide +kernel)).mp h5)
    have e5 : Ex H H5 := ((Ex.b e4 : ExB r H H4).trans eb5).new hr0
    have hX5 : readFile t = (ruleIn (f0 l .nobody) t.length (5 * ((cut 0 t).drop (j + 2)).length + 5) 8 ((cut 0 t).drop (j + 2)) >>= fun z => linesIn t.length (z.2.length + 1) (f0 l z.1) z.2) := by
      rw [hX4]
      unfold fileEnd
      rw [hm4']
      rfl
    have hnlr : nl ≠ r := fun z => by rw [z] at hnl; exact hr2 hnl
    have hN5 : NamesAt K H5 nl (f0 l .nobody) := ⟨eb5 _ _ hnlr (eb4 _ _ hnlr h3), hG.few, fun x hx => by
      have := hG.nm x hx
      unfold isNm at this
      rw [Bool.and_eq_true] at this
      exact this.2, hG.nodup⟩
    refine q_set ⟨_, rfl, _, rfl, _, rfl, r, nl, t, j + 2, 5 * ((cut 0 t).drop (j + 2)).length + 5, f0 l .nobody, 0, rfl, by omega, hR5, ht, hjl2, hN5, (by rw [List.length_drop]; omega), fun n hn => RaisedB.of (k1 n (by rw [hX5, hn]; rfl)) e5 hr0, fun rl rest ho p H6 j2 hp eb6 hR6 hj2 hj2l hrest hA6 hO6 hz6 => ⟨(by simp), fun el hel q dx hq hdx ne => ⟨q, dx, [.ref nl, .ref p, .ref el], rfl, rfl, upd_same, rfl, ?_⟩⟩⟩
    have e6 : Ex H H6 := ((Ex.b e5 : ExB r H H5).trans eb6).new hr0
    have hN6 := hR5.names hN5 eb6
    have hX6 : readFile t = linesIn t.length (((cut 0 t).drop j2).length + 1) (f0 l rl) ((cut 0 t).drop j2) := by
      rw [hX5, ho, bindOk, hrest]
    have e61 : Ex H6 (upd H6 el (.lst [])) := Ex.new hel
    have e67 : Ex (upd H6 el (.lst [])) (upd (upd (upd (upd H6 el (.lst [])) dx (.own q)) q (.ins (He.ga K "Record") dx [])) q (.ins (He.ga K "Record") dx (nmRecord.zip [.ref nl, .ref p, .ref el]))) := fun b o hb => by
      rw [upd_ne (ne_of_none hb hq), upd_ne (ne_of_none hb hq), upd_ne (ne_of_none hb hdx)]
      exact hb
    have e7 := e61.trans e67
    have hqH : H q = none := fresh_back (e6.trans e61) hq
    have helH : H el = none := fresh_back e6 hel
    have nz : nl ≠ z := fun y => by rw [y, e2 _ _ hz] at hnl; cases hnl
    have ez : el ≠ z := fun y => by rw [y, hz] at helH; cases helH
    have qz : q ≠ z := fun y => by rw [y, hz] at hqH; cases hqH
    have hN7 := NamesAt.congr (g := f0 l rl) (f := f0 l .nobody) rfl (hN6.ex e7)
    have hRec7 : RecordAt K (rm _ z z) q el (f0 l rl) := ⟨dx, nl, p, rm_of qz qz upd_same, ⟨rm_of nz nz hN7.1, hN7.2⟩, RuleAt.off (RuleAt.congr (f := f0 l .nobody) rfl (RuleObj.ex hA6 e7)) ((e6.trans e7) _ _ hz), ⟨[], rm_of ez ez (e67 _ _ upd_same), .nil⟩, fun y => by
      have := hN6.1
      rw [y, hel] at this
      cases this⟩
    have hR7 := hR6.ex e7
    have hF7 : FileOk (f0 l rl) := ⟨Names.congr (f := f0 l .nobody) rfl hN5.2, ok_congr (f := f0 l .nobody) (g := f0 l rl) rfl hO6, (by show rsz rl ≤ _; omega), (fun i e he => by cases he), (by show 0 ≤ 60; omega)⟩
    refine q_set (er_hall fun h l0 H8 hh hl0 hne e8 hA8 => ?_)
    have hH8 : H h = none := fresh_back (e6.trans e7) hh
    have hlH8 : H l0 = none := fresh_back (e6.trans e7) hl0
    have hrm8 := fun b o (hb : _ = some o) => rm_of (h := h) (l := l0) (ne_of_none hb hh) (ne_of_none hb hl0) (e8 b o hb)
    refine q_while (fun m σ' H' => ∃ (f : File) (jj g' : Nat) (l' : Addr) (v : Option V), σ' = [some (.ref a), some (.ref r), some (.ref nl), some (.ref q), some (.ref h), v] ∧ m = (cut 0 t).length - jj ∧ Ex H H' ∧ H l' = none ∧ ReaderAt K H' r (wsOf t) jj ∧ jj ≤ (cut 0 t).length ∧ RecordAt K (rm (rm H' h l') z z) q el f ∧ FileOk f ∧ HallAt K H' h l' (now f) ∧ (cut 0 t).length - jj + 1 ≤ g' ∧ readFile t = linesIn t.length g' f ((cut 0 t).drop jj)) ((cut 0 t).length - j2)
      ⟨f0 l rl, j2, ((cut 0 t).drop j2).length + 1, l0, none, rfl, rfl, (e6.trans e7).trans e8, hlH8, hR7.ex e8, hj2l, hRec7.ex (rm_mono hrm8), hF7, hA8, (by rw [List.length_drop]; omega), hX6⟩ ?_
    rintro m σ' H' ⟨f, jj, g', l', v, rfl, rfl, eH, hl'H, hR', hjj, hRec', hF', hA', hg', hX⟩
    obtain ⟨g', rfl⟩ : ∃ g2, g' = g2 + 1 := ⟨g' - 1, by omega⟩
    obtain ⟨wd, hw, hpl, hdr⟩ := ws_at hjj
    refine ⟨!decide (jj + 1 = (wsOf t).length), et_not (et_B (ev_atend hR' (by omega) rfl)), fun hb H9 e9 => ?_, fun hb H9 e9 => ?_⟩
    · have hjlt : jj < (cut 0 t).length := by
        have : ¬ (jj + 1 = (wsOf t).length) := by simpa using hb
        omega
      have hdne : (cut 0 t).drop jj ≠ [] := fun z => by
        rw [List.drop_eq_nil_iff] at z
        omega
      have hXt := hX.trans (lines_turn hdne)
      refine ⟨fun σ2 HH => ∃ (f2 : File) (j3 : Nat) (l2 : Addr) (v : Option V), σ2 = [some (.ref a), some (.ref r), some (.ref nl), some (.ref q), some (.ref h), v] ∧ jj < j3 ∧ Ex H HH ∧ H l2 = none ∧ ReaderAt K HH r (wsOf t) j3 ∧ j3 ≤ (cut 0 t).length ∧ RecordAt K (rm (rm HH h l2) z z) q el f2 ∧ FileOk f2 ∧ HallAt K HH h l2 (now f2) ∧ readFile t = linesIn t.length g' f2 ((cut 0 t).drop j3), ?_, ?_⟩
      · rintro σ2 HH ⟨f2, j3, l2, v2, rfl, hj3, eHH, hl2, hR3, hj3l, hRec3, hF3, hA3, hX3⟩
        exact ⟨(cut 0 t).length - j3, by omega, f2, j3, g', l2, v2, rfl, rfl, eHH, hl2, hR3, hj3l, hRec3, hF3, hA3, by omega, hX3⟩
      · have hR9 := hR'.ex e9
        have hA9 := hA'.ex e9
        have hRec9 := hRec'.ex (rm_mono (rm_mono e9))
        have hzrm : ∀ {G : Hp}, Ex H G → rm G h l' z = some (.lst (intsV zs)) := fun e => rm_of (ne_of_none hz hH8) (ne_of_none hz hl'H) (e _ _ hz)
        have eH9 := eH.trans e9
        have hmw := must_at (k := [10]) (by simp) hjj hw
        refine q_expect (b := [10]) lit_line hR9 hw rfl (fun h10 H10 eb10 hR10 => ?_) fun h10 => RaisedB.of (k1 _ ?_) eH9 hr0
        rotate_left
        · rw [hXt, hmw.2 fun z => h10 (spl_line.mpr z)]
          rfl
        obtain ⟨_, hmw'⟩ := hmw.1 (spl_line.mp h10)
        rw [hmw', bindOk] at hXt
        have eH10 : Ex H H10 := ((Ex.b eH9 : ExB r H H9).trans eb10).new hr0
        have hA10 := hR9.hall hA9 eb10
        have hRec10 := ((hR9.rm hA9 (ws_ne t)).off (hzrm eH9) (ws_ne t)).record hRec9 (rm_monoB (rm_monoB eb10))
        refine q_set ⟨_, rfl, _, rfl, _, rfl, r, q, el, h, l', t, jj + 1, f, rfl, hR10, ht, hjlt, (hRec10.ex rm_ex).ex rm_ex, hF', hA10, fun n hn => RaisedB.of (k1 n (by rw [hXt, hn]; rfl)) eH10 hr0, fun x rest hx hm h60 p2 dp po H11 j3 hp2 hpo eb11 hev hoff2 hR11 hj3 hj3l hrest3 => ?_⟩
        have eH11 : Ex H H11 := ((Ex.b eH10 : ExB r H H10).trans eb11).new hr0
        have hA11 := hR10.hall hA10 eb11
        have hRec11 := ((hR10.rm hA10 (ws_ne t)).off (hzrm eH10) (ws_ne t)).record hRec10 (rm_monoB (rm_monoB eb11))
        have h6 : count f ≤ 6 := hF'.names.few
        obtain ⟨nok, nst⟩ := now_ok h6 hF'.valid
        have hfew := hF'.few
        refine q_call (ea_cons (ev_var rfl) (ea_cons (ev_var rfl) ea_nil)) fun H12 e12 => ⟨h, l', p2, now f, f, x, rfl, hA11.ex e12, nok, ⟨dp, po, e12 _ _ hev, e12 _ _ hoff2⟩, hm, by omega, fun H13 l2 eh13 hl2 hA13 => ?_⟩
        have hR12 := hR11.ex e12
        have hA12 := hA11.ex e12
        have hRec12 := hRec11.ex (rm_mono (rm_mono e12))
        have eH12 := eH11.trans e12
        have erm : Ex (rm H12 h l') (rm H13 h l2) := fun b o hb => by
          obtain ⟨n1, n2, n3⟩ := rm_at hb
          refine rm_of n1 ?_ (eh13 b o n1 n2 n3)
          rcases hl2 with rfl | z
          · exact n2
          · exact ne_of_none n3 z
        have eH13 : Ex H H13 := fun b o hb => eh13 b o (ne_of_none hb hH8) (ne_of_none hb hl'H) (eH12 _ _ hb)
        have hl2H : H l2 = none := by
          rcases hl2 with rfl | z
          · exact hl'H
          · exact fresh_back eH12 z
        have hR13 := ((hR12.rm hA12 (ws_ne t)).ex erm).ex rm_ex
        have hRec13 := hRec12.ex (rm_mono erm)
        obtain ⟨⟨dh, hhh⟩, pps, hll, hpps⟩ := id hA11
        have pol : po ≠ l' := fun z => by
          obtain ⟨_, pps0, hll0, _⟩ := id hA10
          rw [z, hll0] at hpo
          cases hpo
        have pz := Ne.symm (lst_apart (eH11 _ _ hz) hev)
        have poz : po ≠ z := fun y => by rw [y, eH10 _ _ hz] at hpo; cases hpo
        have hev13 := rm_of pz pz (erm _ _ (rm_mono e12 _ _ (rm_of (ins_apart hev hhh (by decide +kernel)) (Ne.symm (lst_apart hll hev)) hev)))
        have hoff13 := rm_of poz poz (erm _ _ (rm_mono e12 _ _ (rm_of (lst_apart hoff2 hhh) pol hoff2)))
        have poel : po ≠ el := fun z => by
          obtain ⟨_, _, _, _, _, _, ⟨_, hel0, _⟩, _⟩ := (hRec10.ex rm_ex).ex rm_ex
          rw [z, hel0] at hpo
          cases hpo
        obtain ⟨ps, hel13, hpsl, hpush⟩ := hRec13.push hev13 hoff13 poel
        obtain ⟨elh, ell, hel13'⟩ := rm_at (rm_at hel13).2.2
        obtain ⟨dq, nl', ru', hq13, _, _, _, _⟩ := (hRec13.ex rm_ex).ex rm_ex
        refine s_app hel13' (ev_fld (ev_var rfl) hq13 (cl_Record S) (na_Record_events S) (rec_events _ _ _)) (ev_var rfl) (by rw [List.length_map, hpsl]; omega) fun H14 e14 => ?_
        obtain ⟨ps4, hel14, _, hpush4⟩ := (hRec13.ex (rm_mono (rm_mono e14))).push (rm_mono (rm_mono e14) _ _ hev13) (rm_mono (rm_mono e14) _ _ hoff13) poel
        have hpe : ps4.map V.ref = ps.map V.ref := by
          have h1 := (rm_at (rm_at hel14).2.2).2.2
          rw [e14 _ _ hel13'] at h1
          have h2 := Option.some.inj h1
          injection h2 with h3
          exact h3.symm
        rw [hpe] at hpush4
        obtain ⟨_, _, _, _, _, _, ⟨ps5, hel5, hps5⟩, _⟩ := ((hRec13.ex (rm_mono (rm_mono e14))).ex rm_ex).ex rm_ex
        refine ⟨put f x, j3, l2, _, rfl, by omega, fun b o hb => ?_, hl2H, (hR13.ex e14).push (ws_ne t) hel5 hps5, hj3l, hpush4.ex ((rm_upd ez ez).trans (rm_mono (rm_upd elh ell))), put_ok hF' hm h60, ?_, ?_⟩
        · rw [upd_ne (ne_of_none hb helH)]
          exact e14 _ _ (eH13 _ _ hb)
        · rw [now_put]
          exact (hA13.ex e14).push hel5 ell
        · rw [hXt, hx, bindOk, hrest3]
    · have hend : jj + 1 = (wsOf t).length := by simpa using hb
      have hdn : (cut 0 t).drop jj = [] := by
        rw [List.drop_eq_nil_iff]
        omega
      rw [hdn, lines_stop] at hX
      refine s_ret (ev_var rfl) fun H10 e10 => k2 f hX hF' q el H10 hqH helH (eH.trans (e9.trans e10)) ((hRec'.ex (rm_mono rm_ex)).ex (rm_mono (e9.trans e10)))
end
end CK
/-! calls.py: what is checked -/
namespace CK
open PySem PySem.Spec PyProof.Rows L2 Evl
open Vbpxaf (bit count opens File nameOf Now mayBe done acting may W now put readFile)
open VbpxCore (isBetween)
section
variable {P : Program} {w : World} {K : PySem.W.Frag} {mg : Str → Option Value} {base : Heap}
theorem nats_ints (l : List Nat) : nats l = intsV (VbpxCore.ints l) := by
  unfold nats intsV VbpxCore.ints
  rw [List.map_map]
  rfl
theorem ints_at {l : List Int} {i : Nat} {x : V} (h : (intsV l)[i]? = some x) : ∃ n, l[i]? = some n ∧ x = .int n := by
  unfold intsV at h
  rw [List.getElem?_map] at h
  obtain ⟨n, hn, rfl⟩ := Option.map_eq_some_iff.mp h
  exact ⟨n, hn, rfl⟩
theorem between_eq (n lo hi : Int) : (decide (lo ≤ n) && decide (n ≤ hi)) = isBetween n lo hi := rfl
def sp_check_range (K : PySem.W.Frag) : Sp := fun vs H Q E => ∃ n k : Int, vs = [.int n, .int k] ∧ (isBetween n 0 k = true → RetV .non H Q) ∧ (isBetween n 0 k = false → Raised K "OutOfRange" [("number", .int (-3))] H E)
theorem ok_check_range (S : Top K mg) : Has P w K mg base (L2.CX P w) "check_range" 4 P_check_range (sp_check_range K) := by
  refine has_ofX (g_check_range S) (fn_check_range S) sc_check_range bi_check_range (fun vs H Q E h => ?_) (fun cdv A outer s H vs Q E hr h => ?_)
  · obtain ⟨n, k, rfl, _⟩ := h
    rfl
  · obtain ⟨n, k, rfl, k1, k2⟩ := h
    refine ⟨_, (pss_one (ps_if (pt_not (pt_chain op_le op_le pe_int (pv 0) (pv 1)))
      (pss_one (ps_raise rfl (takes_of rfl rfl rfl rfl) (pmk_x0 K (ok_OutOfRange S) (hr.mono (by omega)) rfl ))) pss_nil)), ?_⟩
    refine s_when (b := !isBetween n 0 k) (et_not (et_is (et_test (ev_chain ev_c (ev_var rfl) rv_I0 (fun _ => ev_var rfl) fun _ => rv_I0)) rfl)) (fun hb H1 e1 => ?_) fun hb H1 e1 => ?_
    · exact err0 ((k2 (by simpa using hb)).mono e1)
    · exact k1 (by simpa using hb) H1 e1
def sp_check_bytes (K : PySem.W.Frag) : Sp := fun vs H Q E => ∃ (a : Addr) (t : List Int), vs = [.ref a] ∧ SqL K H a (intsV t) ∧ t.length ≤ 2000 ∧ ((t.all fun c => isBetween c 0 255) = true → RetV .non H Q) ∧ ((t.all fun c => isBetween c 0 255) = false → Raised K "WrongBytes" [("number", .int (-1))] H E)
theorem all_given {l : List Int} (p : Int → Bool) : given (intsV l).length (fun _ => true) (fun i => V.bl (p (l.getD i 0))) = (l.map p).map V.bl := by
  rw [intsV_len, given_all 0 (fun c => V.bl (p c)), List.map_map]
  rfl
theorem ok_check_bytes (S : Top K mg) : Has P w K mg base (L2.CX P w) "check_bytes" 4 P_check_bytes (sp_check_bytes K) := by
  refine has_ofX (g_check_bytes S) (fn_check_bytes S) sc_check_bytes bi_check_bytes (fun vs H Q E h => ?_) (fun cdv A outer s H vs Q E hr h => ?_)
  · obtain ⟨a, t, rfl, _⟩ := h
    rfl
  · obtain ⟨a, t, rfl, hL, ht, k1, k2⟩ := h
    refine ⟨_, (pss_one (ps_if (PW.pt (pw_or (pt_cmpR op_gt (pe_callB (cLen K) (by rfl) (n_len S) PySem.boot_len (pa_cons (pv 0) pa_nil)) (pe_gi (g_MOST_BYTES S) rfl) (nomark _)) (pw_or1 (pt_not (pt_val (pe_callB (cAll K) (by rfl) (n_all S) boot_all' (pa_cons (pe_lc (own := [("number", 1)]) rfl sc_check_bytes.nd (piL K (pv 0)) (blkOk_by (own := [("number", 1)]) (N := N_check_bytes) (sc := defScope s_check_bytes) (by decide +kernel)) (fun _ _ _ _ _ => (pg_name (i := 1) sc_check_bytes.nd rfl (Or.inl rfl))) (fun _ _ _ _ _ => pts_nil) (fun _ _ _ _ _ => (pe_chain op_le op_le pe_int (pv 1) (pe_gi (g_LAST_BYTE S) rfl)))) pa_nil)))))))
      (pss_one (ps_raise rfl (takes_of rfl rfl rfl rfl) (pmk_x0 K (ok_WrongBytes S) (hr.mono (by omega)) rfl ))) pss_nil)), ?_⟩
    refine s_when (b := !(t.all fun c => isBetween c 0 255)) (et_is (et_or (et_is (et_test (ev_op (ev_len (ev_var rfl) hL) ev_c rv_I0)) (decide_eq_false (by rw [intsV_len]; omega))) fun _ => et_not (et_B (ev_is (ev_allN (bs := t.map fun c => isBetween c 0 255) (el_is (el_lcL (fun _ => true) (fun i => V.bl (isBetween (t.getD i 0) 0 255)) (ev_var rfl) hL (by rw [intsV_len]; omega) (fun _ => rfl) (fun i x H1 e1 hi => et_yes) (fun i x H1 e1 hi _ => ?_)) (all_given (fun c => isBetween c 0 255)))) (congrArg V.bl (List.all_map ..))))) (Bool.false_or _)) (fun hb H1 e1 => ?_) fun hb H1 e1 => ?_
    · obtain ⟨n, hn, rfl⟩ := ints_at hi
      rw [getD_of hn]
      exact ev_chain ev_c (ev_var rfl) rv_I0 (fun _ => ev_c) fun _ => rv_I0
    · exact err0 ((k2 (by simpa using hb)).mono e1)
    · exact k1 (by simpa using hb) H1 e1
/-- the record's parts as they are asked for -/
theorem ev_allowed (S : Top K mg) {σ : L2.St} {H : Hp} {r el : Addr} {f : File} {te : TE} (h : RecordAt K H r el f) (h1 : Ev te σ H (.ref r)) : ∃ tb, Tab K H tb (count f) (may f) ∧ Ev (tFld K (tFld K te "rule") "allowed") σ H (.ref tb) := by
  obtain ⟨dx, nl, ru, hq, hN, ⟨dr, tb, hru, hT⟩, hE, hne⟩ := h
  exact ⟨tb, hT, ev_fld (ev_fld h1 hq (cl_Record S) (na_Record_rule S) (rec_rule _ _ _)) hru (cl_Rule S) (na_Rule_allowed S) (rule_al _ _ _)⟩
theorem ev_officers (S : Top K mg) {σ : L2.St} {H : Hp} {r el : Addr} {f : File} {te : TE} (h : RecordAt K H r el f) (h1 : Ev te σ H (.ref r)) : Ev (tCB (rLenS K) (tCons (tFld K te "names") tNil)) σ H (.int (count f : Int)) := by
  obtain ⟨dx, nl, ru, hq, hN, hR, hE, hne⟩ := h
  exact ev_count hN (ev_fld h1 hq (cl_Record S) (na_Record_names S) (rec_names _ _ _))
theorem ev_events (S : Top K mg) {σ : L2.St} {H : Hp} {r el : Addr} {f : File} {te : TE} (h : RecordAt K H r el f) (h1 : Ev te σ H (.ref r)) : Ev (tCB (rLenS K) (tCons (tFld K te "events") tNil)) σ H (.int (f.events.length : Int)) := by
  obtain ⟨dx, nl, ru, hq, hN, hR, ⟨ps, hel, hps⟩, hne⟩ := h
  exact ev_is (ev_len (ev_fld h1 hq (cl_Record S) (na_Record_events S) (rec_events _ _ _)) (sq_of hel)) (by rw [List.length_map, paired_len hps])
/-- a refusal: its class, its fields, its number -/
inductive Refuses : Str → List (Str × V) → Int → Prop
  | bytes : Refuses "WrongBytes" [("number", .int (-1))] (-1)
  | range : Refuses "OutOfRange" [("number", .int (-3))] (-3)
  | list : Refuses "WrongList" [("number", .int (-4))] (-4)
  | there : Refuses "NotThere" [("number", .int (-5))] (-5)
  | events : Refuses "HasEvents" [("number", .int (-6))] (-6)
  | call : Refuses "NoCall" [("number", .int (-100))] (-100)
  | fault (n : Int) : Refuses "Fault" (faultF n) (-1000 - n)
def RaisedN (K : PySem.W.Frag) (n : Int) (H : Hp) (E : XK) : Prop := ∀ x fs, Refuses x fs n → Raised K x fs H E
theorem RaisedN.mono {n : Int} {H H1 : Hp} {E : XK} (r : RaisedN K n H E) (e : Ex H H1) : RaisedN K n H1 E := fun x fs h => (r x fs h).mono e
theorem between_0 {n k : Int} (h : isBetween n 0 k = true) : 0 ≤ n ∧ n ≤ k := by
  unfold VbpxCore.isBetween at h
  simpa using h
/-- a number that is there: what tells it, what it comes to -/
def oneOf (hi m : Nat) (n : Int) : Except Int Nat := if isBetween n 0 (hi : Int) = true then (if n.toNat < m then .ok n.toNat else .error (-5)) else .error (-3)
theorem oneOf_ok {hi m c : Nat} {n : Int} (h : oneOf hi m n = .ok c) : n = (c : Int) ∧ c < m ∧ c ≤ hi := by
  unfold oneOf at h
  by_cases h1 : isBetween n 0 (hi : Int) = true
  · rw [if_pos h1] at h
    obtain ⟨h2, h3⟩ := between_0 h1
    by_cases h4 : n.toNat < m
    · rw [if_pos h4] at h
      injection h with h
      omega
    · rw [if_neg h4] at h
      cases h
  · rw [if_neg h1] at h
    cases h
theorem company_one (f : File) (n : Int) : Vbpxaf.company f n = oneOf 63 (2 ^ count f) n := by
  unfold Vbpxaf.company Vbpxaf.ranged oneOf
  by_cases h : isBetween n 0 ((63 : Nat) : Int) = true
  · rw [if_pos (show isBetween n 0 63 = true from h), if_pos h]
    rfl
  · rw [if_neg (show ¬ isBetween n 0 63 = true from h), if_neg (show ¬ isBetween n 0 ((63 : Nat) : Int) = true from h)]
    rfl
theorem officer_one (f : File) (n : Int) : Vbpxaf.officer f n = oneOf 5 (count f) n := by
  unfold Vbpxaf.officer Vbpxaf.ranged oneOf
  by_cases h : isBetween n 0 ((5 : Nat) : Int) = true
  · rw [if_pos (show isBetween n 0 5 = true from h), if_pos h]
    rfl
  · rw [if_neg (show ¬ isBetween n 0 5 = true from h), if_neg (show ¬ isBetween n 0 ((5 : Nat) : Int) = true from h)]
    rfl
theorem events_one (f : File) (n : Int) : Vbpxaf.eventsTo f n = oneOf 60 (f.events.length + 1) n := by
  unfold Vbpxaf.eventsTo Vbpxaf.ranged oneOf
  by_cases h : isBetween n 0 ((60 : Nat) : Int) = true
  · rw [if_pos (show isBetween n 0 60 = true from h), if_pos h]
    show (if n.toNat ≤ f.events.length then pure n.toNat else Except.error (-5)) = _
    by_cases h2 : n.toNat ≤ f.events.length
    · rw [if_pos h2, if_pos (by omega)]
      rfl
    · rw [if_neg h2, if_neg (by omega)]
  · rw [if_neg (show ¬ isBetween n 0 60 = true from h), if_neg (show ¬ isBetween n 0 ((60 : Nat) : Int) = true from h)]
    rfl
def sp_check_one (K : PySem.W.Frag) (hi : Nat) (g : File → Nat) : Sp := fun vs H Q E => ∃ (n : Int) (r el : Addr) (f : File), vs = [.int n, .ref r] ∧ RecordAt K H r el f ∧ (∀ c, oneOf hi (g f) n = .ok c → RetV .non H Q) ∧ (∀ e, oneOf hi (g f) n = .error e → RaisedN K e H E)
theorem q_range0 {σ : L2.St} {H : Hp} {D : Ends} {tz : TS} {Wx : WX} {te tk : TE} {n k : Int} (h : Ev te σ H (.int n)) (hk : Ev tk σ H (.int k)) (k1 : isBetween n 0 k = true → ∀ H1, Ex H H1 → tz D σ H1) (k2 : isBetween n 0 k = false → Raised K "OutOfRange" [("number", .int (-3))] H (WE Wx σ)) :
    tSeq (tDrop (tCallS (sp_check_range K) (WE Wx) (tCons te (tCons tk tNil)))) tz D σ H := h H (Ex.refl H) _ fun H1 e1 => hk H1 e1 _ fun H2 e2 => ⟨n, k, rfl, fun hb H3 e3 => k1 hb H3 ((e1.trans e2).trans e3), fun hb => (k2 hb).mono (e1.trans e2)⟩
theorem one_lo {hi m : Nat} {n : Int} (h : isBetween n 0 (hi : Int) = false) : oneOf hi m n = .error (-3) := by
  unfold oneOf
  rw [if_neg (by rw [h]; simp)]
theorem one_no {hi m : Nat} {n : Int} (h : isBetween n 0 (hi : Int) = true) (h2 : m ≤ n.toNat) : oneOf hi m n = .error (-5) := by
  unfold oneOf
  rw [if_pos h, if_neg (by omega)]
theorem one_yes {hi m : Nat} {n : Int} (h : isBetween n 0 (hi : Int) = true) (h2 : n.toNat < m) : oneOf hi m n = .ok n.toNat := by
  unfold oneOf
  rw [if_pos h, if_pos h2]
theorem ok_check_company (S : Top K mg) : Has P w K mg base (L2.CX P w) "check_company" 5 P_check_company (sp_check_one K 63 fun f => 2 ^ count f) := by
  refine has_ofX (g_check_company S) (fn_check_company S) sc_check_company bi_check_company (fun vs H Q E h => ?_) (fun cdv A outer s H vs Q E hr h => ?_)
  · obtain ⟨n, r, el, f, rfl, _⟩ := h
    rfl
  · obtain ⟨n, r, el, f, rfl, hR, k1, k2⟩ := h
    refine ⟨_, (pss_cons (ps_expr (pe_hS (ok_check_range S) (hr.mono (by omega)) rfl (takes_of rfl rfl rfl rfl) (pa_cons (pv 0) (pa_cons (pe_gi (g_LAST_COMPANY S) rfl) pa_nil))))
      (pss_one (ps_if (pt_cmpR op_ge (pv 0) (pe_callB (cLen K) (by rfl) (n_len S) PySem.boot_len (pa_cons (pe_f K (pe_f K (pv 1))) pa_nil)) (nomark _))
      (pss_one (ps_raise rfl (takes_of rfl rfl rfl rfl) (pmk_x0 K (ok_NotThere S) (hr.mono (by omega)) rfl ))) pss_nil))), ?_⟩
    refine q_range0 (k := 63) (ev_var rfl) ev_c (fun hb H1 e1 => ?_) fun hb => k2 _ (one_lo hb) _ _ .range
    obtain ⟨h0, h1⟩ := between_0 hb
    obtain ⟨tb, hT, hE⟩ := ev_allowed S (hR.ex e1) (te := tVar 1) (σ := [some (.int n), some (.ref r)]) (ev_var rfl)
    refine s_when (b := decide (2 ^ count f ≤ n.toNat)) (et_is (et_test (ev_op (ev_var rfl) (ev_len hE hT.2) rv_I0)) (by rw [tab_len]; exact decide_eq_decide.mpr (by omega))) (fun hb2 H2 e2 => ?_) fun hb2 H2 e2 => ?_
    · exact err0 ((k2 _ (one_no hb (of_decide_eq_true hb2)) _ _ .there).mono (e1.trans e2))
    · exact k1 _ (one_yes (m := 2 ^ count f) hb (by have := of_decide_eq_false hb2; omega)) H2 (e1.trans e2)
theorem ok_check_officer (S : Top K mg) : Has P w K mg base (L2.CX P w) "check_officer" 5 P_check_officer (sp_check_one K 5 count) := by
  refine has_ofX (g_check_officer S) (fn_check_officer S) sc_check_officer bi_check_officer (fun vs H Q E h => ?_) (fun cdv A outer s H vs Q E hr h => ?_)
  · obtain ⟨n, r, el, f, rfl, _⟩ := h
    rfl
  · obtain ⟨n, r, el, f, rfl, hR, k1, k2⟩ := h
    refine ⟨_, (pss_cons (ps_expr (pe_hS (ok_check_range S) (hr.mono (by omega)) rfl (takes_of rfl rfl rfl rfl) (pa_cons (pv 0) (pa_cons (pe_op op_sub (pe_gi (g_MOST_OFFICERS S) rfl) pe_int) pa_nil))))
      (pss_one (ps_if (pt_cmpR op_ge (pv 0) (pe_callB (cLen K) (by rfl) (n_len S) PySem.boot_len (pa_cons (pe_f K (pv 1)) pa_nil)) (nomark _))
      (pss_one (ps_raise rfl (takes_of rfl rfl rfl rfl) (pmk_x0 K (ok_NotThere S) (hr.mono (by omega)) rfl ))) pss_nil))), ?_⟩
    refine q_range0 (k := 5) (ev_var rfl) (ev_is (ev_op ev_c ev_c rv_I0) rfl) (fun hb H1 e1 => ?_) fun hb => k2 _ (one_lo hb) _ _ .range
    obtain ⟨h0, h1⟩ := between_0 hb
    refine s_when (b := decide (count f ≤ n.toNat)) (et_is (et_test (ev_op (ev_var rfl) (ev_officers S (hR.ex e1) (ev_var rfl)) rv_I0)) (decide_eq_decide.mpr (by omega))) (fun hb2 H2 e2 => ?_) fun hb2 H2 e2 => ?_
    · exact err0 ((k2 _ (one_no hb (of_decide_eq_true hb2)) _ _ .there).mono (e1.trans e2))
    · exact k1 _ (one_yes hb (by have := of_decide_eq_false hb2; omega)) H2 (e1.trans e2)
theorem ok_check_how_many_events (S : Top K mg) : Has P w K mg base (L2.CX P w) "check_how_many_events" 5 P_check_how_many_events (sp_check_one K 60 fun f => f.events.length + 1) := by
  refine has_ofX (g_check_how_many_events S) (fn_check_how_many_events S) sc_check_how_many_events bi_check_how_many_events (fun vs H Q E h => ?_) (fun cdv A outer s H vs Q E hr h => ?_)
  · obtain ⟨n, r, el, f, rfl, _⟩ := h
    rfl
  · obtain ⟨n, r, el, f, rfl, hR, k1, k2⟩ := h
    refine ⟨_, (pss_cons (ps_expr (pe_hS (ok_check_range S) (hr.mono (by omega)) rfl (takes_of rfl rfl rfl rfl) (pa_cons (pv 0) (pa_cons (pe_gi (g_MOST_EVENTS S) rfl) pa_nil))))
      (pss_one (ps_if (pt_cmpR op_gt (pv 0) (pe_callB (cLen K) (by rfl) (n_len S) PySem.boot_len (pa_cons (pe_f K (pv 1)) pa_nil)) (nomark _))
      (pss_one (ps_raise rfl (takes_of rfl rfl rfl rfl) (pmk_x0 K (ok_NotThere S) (hr.mono (by omega)) rfl ))) pss_nil))), ?_⟩
    refine q_range0 (k := 60) (ev_var rfl) ev_c (fun hb H1 e1 => ?_) fun hb => k2 _ (one_lo hb) _ _ .range
    obtain ⟨h0, h1⟩ := between_0 hb
    refine s_when (b := decide (f.events.length + 1 ≤ n.toNat)) (et_is (et_test (ev_op (ev_var rfl) (ev_events S (hR.ex e1) (ev_var rfl)) rv_I0)) (decide_eq_decide.mpr (by omega))) (fun hb2 H2 e2 => ?_) fun hb2 H2 e2 => ?_
    · exact err0 ((k2 _ (one_no hb (of_decide_eq_true hb2)) _ _ .there).mono (e1.trans e2))
    · exact k1 _ (one_yes (m := f.events.length + 1) hb (by have := of_decide_eq_false hb2; omega)) H2 (e1.trans e2)
def sp_check_sought (K : PySem.W.Frag) : Sp := fun vs H Q E => ∃ n : Int, vs = [.int n] ∧ (isBetween n 0 5 = true → RetV .non H Q) ∧ (isBetween n 0 5 = false → RaisedN K (-3) H E)
theorem ok_check_sought (S : Top K mg) : Has P w K mg base (L2.CX P w) "check_sought" 5 P_check_sought (sp_check_sought K) := by
  refine has_ofX (g_check_sought S) (fn_check_sought S) sc_check_sought bi_check_sought (fun vs H Q E h => ?_) (fun cdv A outer s H vs Q E hr h => ?_)
  · obtain ⟨n, rfl, _⟩ := h
    rfl
  · obtain ⟨n, rfl, k1, k2⟩ := h
    refine ⟨_, (pss_one (ps_expr (pe_hS (ok_check_range S) (hr.mono (by omega)) rfl (takes_of rfl rfl rfl rfl) (pa_cons (pv 0) (pa_cons (pe_gi (g_GREATEST_SOUGHT S) rfl) pa_nil))))), ?_⟩
    exact ⟨_, rfl, n, 5, rfl, fun hb H1 e1 => k1 hb H1 e1, fun hb => k2 hb _ _ .range⟩
/-- a list is such as is asked for -/
def sp_check_list (K : PySem.W.Frag) (C : File → List Int → Prop) : Sp := fun vs H Q E => ∃ (a r el : Addr) (t : List Int) (f : File), vs = [.ref a, .ref r] ∧ SqL K H a (intsV t) ∧ t.length ≤ 2000 ∧ RecordAt K H r el f ∧ (C f t → RetV .non H Q) ∧ (¬ C f t → RaisedN K (-4) H E)
def locksOk (f : File) (t : List Int) : Prop := t.length ≤ 100 ∧ (t.all fun c => isBetween c 0 ((2 ^ count f - 1 : Nat) : Int)) = true
theorem ok_check_locks (S : Top K mg) : Has P w K mg base (L2.CX P w) "check_locks" 4 P_check_locks (sp_check_list K locksOk) := by
  refine has_ofX (g_check_locks S) (fn_check_locks S) sc_check_locks bi_check_locks (fun vs H Q E h => ?_) (fun cdv A outer s H vs Q E hr h => ?_)
  · obtain ⟨a, r, el, t, f, rfl, _⟩ := h
    rfl
  · obtain ⟨a, r, el, t, f, rfl, hL, ht, hR, k1, k2⟩ := h
    refine ⟨_, (pss_cons (ps_set (i := 2) sc_check_locks.nd rfl (Or.inr rfl) (pe_callB (cLen K) (by rfl) (n_len S) PySem.boot_len (pa_cons (pe_f K (pe_f K (pv 1))) pa_nil)))
      (pss_one (ps_if (PW.pt (pw_or (pt_cmpR op_gt (pe_callB (cLen K) (by rfl) (n_len S) PySem.boot_len (pa_cons (pv 0) pa_nil)) (pe_gi (g_MOST_LOCKS S) rfl) (nomark _)) (pw_or1 (pt_not (pt_val (pe_callB (cAll K) (by rfl) (n_all S) boot_all' (pa_cons (pe_lc (own := [("lock", 3)]) rfl sc_check_locks.nd (piL K (pv 0)) (blkOk_by (own := [("lock", 3)]) (N := N_check_locks) (sc := defScope s_check_locks) (by decide +kernel)) (fun _ _ _ _ _ => (pg_name (i := 3) sc_check_locks.nd rfl (Or.inl rfl))) (fun _ _ _ _ _ => pts_nil) (fun _ _ _ _ _ => (pe_chain op_le op_lt pe_int (pv 3) (pv 2)))) pa_nil)))))))
      (pss_one (ps_raise rfl (takes_of rfl rfl rfl rfl) (pmk_x0 K (ok_WrongList S) (hr.mono (by omega)) rfl ))) pss_nil))), ?_⟩
    have m0 := Nat.two_pow_pos (count f)
    obtain ⟨tb, hT, hE⟩ := ev_allowed S hR (te := tVar 1) (σ := [some (.ref a), some (.ref r), none, none]) (ev_var rfl)
    refine q_asg (v := .int ((2 ^ count f : Nat) : Int)) (ev_is (ev_len hE hT.2) (by rw [tab_len])) fun H1 e1 => ?_
    have hL1 := ex_l e1 hL
    refine s_when (b := decide (100 < t.length) || !(t.all fun c => isBetween c 0 ((2 ^ count f - 1 : Nat) : Int))) (et_or (et_is (et_test (ev_op (ev_len (ev_var rfl) hL1) ev_c rv_I0)) (by rw [intsV_len]; exact decide_eq_decide.mpr (by omega))) fun _ => et_not (et_B (ev_is (ev_allN (bs := t.map fun c => isBetween c 0 ((2 ^ count f - 1 : Nat) : Int)) (el_is (el_lcL (fun _ => true) (fun i => V.bl (isBetween (t.getD i 0) 0 ((2 ^ count f - 1 : Nat) : Int))) (ev_var rfl) hL1 (by rw [intsV_len]; omega) (fun _ => rfl) (fun i x H1 e1 hi => et_yes) (fun i x H1 e1 hi _ => ?_)) (all_given (fun c => isBetween c 0 ((2 ^ count f - 1 : Nat) : Int))))) (congrArg V.bl (List.all_map ..))))) (fun hb H2 e2 => ?_) fun hb H2 e2 => ?_
    · obtain ⟨n, hn, rfl⟩ := ints_at hi
      rw [getD_of hn]
      refine ev_is (ev_chain ev_c (ev_var rfl) rv_I0 (fun _ => ev_var rfl) fun _ => rv_I0) (congrArg V.bl ?_)
      rw [← between_eq]
      congr 1
      exact decide_eq_decide.mpr (by omega)
    · refine err0 ((k2 (fun z => ?_) _ _ .list).mono (e1.trans e2))
      rw [z.2, decide_eq_false (by have := z.1; omega)] at hb
      cases hb
    · obtain ⟨h1, h2⟩ := Bool.or_eq_false_iff.mp hb
      exact k1 ⟨by have := of_decide_eq_false h1; omega, by simpa using h2⟩ H2 (e1.trans e2)
def weightsOk (f : File) (t : List Int) : Prop := t.length = count f ∧ (t.all fun c => isBetween c 0 1000) = true
theorem ok_check_weights (S : Top K mg) : Has P w K mg base (L2.CX P w) "check_weights" 4 P_check_weights (sp_check_list K weightsOk) := by
  refine has_ofX (g_check_weights S) (fn_check_weights S) sc_check_weights bi_check_weights (fun vs H Q E h => ?_) (fun cdv A outer s H vs Q E hr h => ?_)
  · obtain ⟨a, r, el, t, f, rfl, _⟩ := h
    rfl
  · obtain ⟨a, r, el, t, f, rfl, hL, ht, hR, k1, k2⟩ := h
    refine ⟨_, (pss_one (ps_if (PW.pt (pw_or (pt_cmpR op_ne (pe_callB (cLen K) (by rfl) (n_len S) PySem.boot_len (pa_cons (pv 0) pa_nil)) (pe_callB (cLen K) (by rfl) (n_len S) PySem.boot_len (pa_cons (pe_f K (pv 1)) pa_nil)) (nomark _)) (pw_or1 (pt_not (pt_val (pe_callB (cAll K) (by rfl) (n_all S) boot_all' (pa_cons (pe_lc (own := [("number", 2)]) rfl sc_check_weights.nd (piL K (pv 0)) (blkOk_by (own := [("number", 2)]) (N := N_check_weights) (sc := defScope s_check_weights) (by decide +kernel)) (fun _ _ _ _ _ => (pg_name (i := 2) sc_check_weights.nd rfl (Or.inl rfl))) (fun _ _ _ _ _ => pts_nil) (fun _ _ _ _ _ => (pe_chain op_le op_le pe_int (pv 2) (pe_gi (g_GREATEST_WEIGHT S) rfl)))) pa_nil)))))))
      (pss_one (ps_raise rfl (takes_of rfl rfl rfl rfl) (pmk_x0 K (ok_WrongList S) (hr.mono (by omega)) rfl ))) pss_nil)), ?_⟩
    refine s_when (b := !decide (t.length = count f) || !(t.all fun c => isBetween c 0 1000)) (et_or (et_is (et_test (ev_op (ev_len (ev_var rfl) hL) (ev_officers S hR (ev_var rfl)) (rv_ne rfl))) ?_) fun _ => et_not (et_B (ev_is (ev_allN (bs := t.map fun c => isBetween c 0 1000) (el_is (el_lcL (fun _ => true) (fun i => V.bl (isBetween (t.getD i 0) 0 1000)) (ev_var rfl) hL (by rw [intsV_len]; omega) (fun _ => rfl) (fun i x H1 e1 hi => et_yes) (fun i x H1 e1 hi _ => ?_)) (all_given (fun c => isBetween c 0 1000)))) (congrArg V.bl (List.all_map ..))))) (fun hb H2 e2 => ?_) fun hb H2 e2 => ?_
    · rw [intsV_len]
      congr 1
      exact decide_eq_decide.mpr ⟨fun z => by injection z with z; omega, fun z => by rw [z]⟩
    · obtain ⟨n, hn, rfl⟩ := ints_at hi
      rw [getD_of hn]
      exact ev_chain ev_c (ev_var rfl) rv_I0 (fun _ => ev_c) fun _ => rv_I0
    · refine err0 ((k2 (fun z => ?_) _ _ .list).mono e2)
      rw [z.2, decide_eq_true z.1] at hb
      cases hb
    · obtain ⟨h1, h2⟩ := Bool.or_eq_false_iff.mp hb
      exact k1 ⟨by simpa using h1, by simpa using h2⟩ H2 e2
/-! ### parts of answers -/
def sp_counted (K : PySem.W.Frag) : Sp := fun vs H Q _ => ∃ (a : Addr) (l : List Nat), vs = [.ref a] ∧ H a = some (.lst (nats l)) ∧ l.length ≤ 40000 ∧ RetL (intsV (Vbpxaf.listRow l)) H Q
theorem ok_counted (S : Top K mg) : Has P w K mg base CX0 "counted" 1 P_counted (sp_counted K) := by
  refine has_of (g_counted S) (fn_counted S) sc_counted bi_counted (fun vs H Q E h => ?_) (fun cdv A outer s H vs Q E hr h => ?_)
  · obtain ⟨a, l, rfl, _⟩ := h
    rfl
  · obtain ⟨a, l, rfl, hL, hz, kk⟩ := h
    refine ⟨_, (pss_one (ps_ret (pe_op op_cat (pe_lst (pa_cons (pe_callB (cLen K) (by rfl) (n_len S) PySem.boot_len (pa_cons (pv 0) pa_nil)) pa_nil)) (pv 0)))), ?_⟩
    refine s_retL (el_is (el_catL (el_lst (ea_cons (ev_len (ev_var rfl) (sq_of hL)) ea_nil) (by simp)) (ev_var rfl) hL (by rw [nats_len]; simp; omega)) ?_) kk
    rw [nats_len, nats_ints]
    rfl
theorem el_counted {σ : L2.St} {H : Hp} {ta : TE} {l : List Nat} {E : XK} (h : EvL ta σ H (nats l)) (hz : l.length ≤ 40000) : EvL (tCall (sp_counted K) [] E (tCons ta tNil)) σ H (intsV (Vbpxaf.listRow l)) := fun H1 e1 Q q =>
  h H1 e1 _ fun a H2 ha e2 h2 => ⟨a, l, rfl, h2, hz, fun p H3 hp e3 h3 => q p H3 (fresh_back e2 hp) (e2.trans e3) h3⟩
def sp_rec_list (K : PySem.W.Frag) (g : File → List Nat) : Sp := fun vs H Q _ => ∃ (r el : Addr) (f : File), vs = [.ref r] ∧ RecordAt K H r el f ∧ RetL (nats (g f)) H Q
theorem ok_record_least (S : Top K mg) : Has P w K mg base CX0 "record_least" 4 P_record_least (sp_rec_list K Vbpxaf.least) := by
  refine has_of (g_record_least S) (fn_record_least S) sc_record_least bi_record_least (fun vs H Q E h => ?_) (fun cdv A outer s H vs Q E hr h => ?_)
  · obtain ⟨r, el, f, rfl, _⟩ := h
    rfl
  · obtain ⟨r, el, f, rfl, hR, kk⟩ := h
    refine ⟨_, (pss_one (ps_ret (pe_h (ok_least_companies S) (hr.mono (by omega)) rfl (pa_cons (pe_f K (pe_f K (pv 0))) (pa_cons (pe_callB (cLen K) (by rfl) (n_len S) PySem.boot_len (pa_cons (pe_f K (pv 0)) pa_nil)) pa_nil))))), ?_⟩
    obtain ⟨tb, hT, hE⟩ := ev_allowed S hR (te := tVar 0) (σ := start N_record_least [.ref r]) (ev_var rfl)
    exact s_retL (el_h (ea_cons hE (ea_cons (ev_officers S hR (ev_var rfl)) ea_nil)) fun H1 e1 Q E q => ⟨tb, count f, may f, rfl, hT.ex e1, q⟩) kk
theorem ok_record_forbidden (S : Top K mg) : Has P w K mg base CX0 "record_forbidden" 4 P_record_forbidden (sp_rec_list K Vbpxaf.forbidden) := by
  refine has_of (g_record_forbidden S) (fn_record_forbidden S) sc_record_forbidden bi_record_forbidden (fun vs H Q E h => ?_) (fun cdv A outer s H vs Q E hr h => ?_)
  · obtain ⟨r, el, f, rfl, _⟩ := h
    rfl
  · obtain ⟨r, el, f, rfl, hR, kk⟩ := h
    refine ⟨_, (pss_one (ps_ret (pe_h (ok_forbidden_companies S) (hr.mono (by omega)) rfl (pa_cons (pe_f K (pe_f K (pv 0))) (pa_cons (pe_callB (cLen K) (by rfl) (n_len S) PySem.boot_len (pa_cons (pe_f K (pv 0)) pa_nil)) pa_nil))))), ?_⟩
    obtain ⟨tb, hT, hE⟩ := ev_allowed S hR (te := tVar 0) (σ := start N_record_forbidden [.ref r]) (ev_var rfl)
    exact s_retL (el_h (ea_cons hE (ea_cons (ev_officers S hR (ev_var rfl)) ea_nil)) fun H1 e1 Q E q => ⟨tb, count f, may f, rfl, hT.ex e1, q⟩) kk
theorem ok_record_locks (S : Top K mg) : Has P w K mg base CX0 "record_locks" 5 P_record_locks (sp_rec_list K Vbpxaf.locks) := by
  refine has_of (g_record_locks S) (fn_record_locks S) sc_record_locks bi_record_locks (fun vs H Q E h => ?_) (fun cdv A outer s H vs Q E hr h => ?_)
  · obtain ⟨r, el, f, rfl, _⟩ := h
    rfl
  · obtain ⟨r, el, f, rfl, hR, kk⟩ := h
    refine ⟨_, (pss_one (ps_ret (pe_h (ok_rule_locks S) (hr.mono (by omega)) rfl (pa_cons (pe_f K (pe_f K (pv 0))) (pa_cons (pe_callB (cLen K) (by rfl) (n_len S) PySem.boot_len (pa_cons (pe_f K (pv 0)) pa_nil)) pa_nil))))), ?_⟩
    obtain ⟨tb, hT, hE⟩ := ev_allowed S hR (te := tVar 0) (σ := start N_record_locks [.ref r]) (ev_var rfl)
    exact s_retL (el_h (ea_cons hE (ea_cons (ev_officers S hR (ev_var rfl)) ea_nil)) fun H1 e1 Q E q => ⟨tb, count f, may f, rfl, hT.ex e1, q⟩) kk
def sp_yes_or_no : Sp := fun vs H Q _ => ∃ b : Bool, vs = [.bl b] ∧ RetV (.int (if b = true then 1 else 0)) H Q
theorem ok_yes_or_no (S : Top K mg) : Has P w K mg base CX0 "yes_or_no" 1 P_yes_or_no sp_yes_or_no := by
  refine has_of (g_yes_or_no S) (fn_yes_or_no S) sc_yes_or_no bi_yes_or_no (fun vs H Q E h => ?_) (fun cdv A outer s H vs Q E hr h => ?_)
  · obtain ⟨b, rfl, _⟩ := h
    rfl
  · obtain ⟨b, rfl, kk⟩ := h
    refine ⟨_, (pss_one (ps_ret (pe_ifExp (pt_val (pv 0)) pe_int pe_int))), ?_⟩
    refine s_ret (ev_if (b := b) (et_B (ev_var rfl)) (fun hb => ?_) fun hb => ?_) kk
    · rw [hb]
      exact ev_c
    · rw [hb]
      exact ev_c
theorem ev_yes {σ : L2.St} {H : Hp} {ta : TE} {b : Bool} {E : XK} (h : Ev ta σ H (.bl b)) : Ev (tCall sp_yes_or_no [] E (tCons ta tNil)) σ H (.int (if b = true then 1 else 0)) := ev_h (ea_cons h ea_nil) fun H1 _ Q E k => ⟨b, rfl, k⟩
/-- alike, or the first company for which it is otherwise -/
def sameAns (f : File) (g : Nat → Bool) : List Int := match (Vbpxaf.companies f).find? fun c => g c != may f c with
  | none => [1]
  | some c => VbpxCore.ints [0, c]
theorem el_ifL {σ : L2.St} {H : Hp} {t : TT} {ta tb : TE} {xs : List V} {b : Bool} (h : EvT t σ H b) (h1 : b = true → EvL ta σ H xs) (h2 : b = false → EvL tb σ H xs) : EvL (tIf t ta tb) σ H xs := fun H1 e1 Q q => h H1 e1 _ fun H2 e2 => by
  cases b with
  | true => exact h1 rfl H2 (e1.trans e2) _ fun p H3 hp e3 h3 => q p H3 (fresh_back e2 hp) (e2.trans e3) h3
  | false => exact h2 rfl H2 (e1.trans e2) _ fun p H3 hp e3 h3 => q p H3 (fresh_back e2 hp) (e2.trans e3) h3
def sp_same (K : PySem.W.Frag) : Sp := fun vs H Q _ => ∃ (r el b : Addr) (f : File) (g : Nat → Bool), vs = [.ref r, .ref b] ∧ RecordAt K H r el f ∧ Tab K H b (count f) g ∧ RetL (intsV (sameAns f g)) H Q
theorem ok_same_or_first_otherwise (S : Top K mg) : Has P w K mg base CX0 "same_or_first_otherwise" 3 P_same_or_first_otherwise (sp_same K) := by
  refine has_of (g_same_or_first_otherwise S) (fn_same_or_first_otherwise S) sc_same_or_first_otherwise bi_same_or_first_otherwise (fun vs H Q E h => ?_) (fun cdv A outer s H vs Q E hr h => ?_)
  · obtain ⟨r, el, b, f, g, rfl, _⟩ := h
    rfl
  · obtain ⟨r, el, b, f, g, rfl, hR, hG, kk⟩ := h
    refine ⟨_, (pss_cons (ps_set (i := 2) sc_same_or_first_otherwise.nd rfl (Or.inl rfl) (pe_h (ok_where_otherwise S) (hr.mono (by omega)) rfl (pa_cons (pe_f K (pe_f K (pv 0))) (pa_cons (pv 1) pa_nil))))
      (pss_one (ps_ret (pe_ifExp (pt_cmpR op_gt (pe_callB (cLen K) (by rfl) (n_len S) PySem.boot_len (pa_cons (pv 2) pa_nil)) pe_int (nomark _)) (pe_lst (pa_cons pe_int (pa_cons (pe_ix (ixL K) (pv 2) pe_int (fun _ _ => rfl)) pa_nil))) (pe_lst (pa_cons pe_int pa_nil)))))), ?_⟩
    obtain ⟨tb, hT, hE⟩ := ev_allowed S hR (te := tVar 0) (σ := [some (.ref r), some (.ref b), none]) (ev_var rfl)
    refine q_asgL (el_h (ea_cons hE (ea_cons (ev_var rfl) ea_nil)) fun H2 e2 Q E q => ⟨tb, b, count f, may f, g, rfl, hT.ex e2, hG.ex e2, q⟩) fun p H2 hp e2 h2 => ?_
    have hw : ((Vbpxaf.companies f).find? fun c => g c != may f c) = ((List.range (2 ^ count f)).filter fun c => may f c != g c).head? := by
      rw [List.head?_filter]
      have e : (fun c => g c != may f c) = fun c => may f c != g c := funext fun c => by cases g c <;> cases may f c <;> rfl
      rw [e]
      rfl
    unfold sameAns at kk
    rw [hw] at kk
    cases hh : (List.range (2 ^ count f)).filter fun c => may f c != g c with
    | nil =>
      rw [hh] at kk h2
      refine s_retL (el_ifL (b := false) (et_is (et_test (ev_op (ev_len (ev_var rfl) (sq_of h2)) ev_c rv_I0)) rfl) (fun hf => by cases hf) fun _ => el_lst (ea_cons ev_c ea_nil) (by simp)) fun q H3 hq e3 h3 => kk q H3 (fresh_back e2 hq) (e2.trans e3) h3
    | cons c cs =>
      rw [hh] at kk h2
      refine s_retL (el_ifL (b := true) (et_is (et_test (ev_op (ev_len (ev_var rfl) (sq_of h2)) ev_c rv_I0)) (decide_eq_true (by rw [nats_len]; simp))) (fun _ => el_lst (vs := intsV (VbpxCore.ints [0, c])) (ea_cons ev_c (ea_cons (ev_op (ev_var rfl) ev_c (rv_ixL (sq_of h2) (atI_nat (j := 0) rfl))) ea_nil)) (by simp [intsV, VbpxCore.ints])) fun hf => by cases hf) fun q H3 hq e3 h3 => kk q H3 (fresh_back e2 hq) (e2.trans e3) h3
end
end CK
/-! calls.py: the calls that change the record -/
namespace CK
open PySem PySem.Spec PyProof.Rows L2 Evl
open Vbpxaf (bit count opens File nameOf Now mayBe done acting may W now put readFile run)
open VbpxCore (isBetween)
section
variable {P : Program} {w : World} {K : PySem.W.Frag} {mg : Str → Option Value} {base : Heap}
/-- what a call comes to: the record r with the events' list el, apart from the list at z -/
structure Gives (K : PySem.W.Frag) (r el z : Addr) (X : Except Int (File × List Int)) (H : Hp) (Q : VK) (E : XK) : Prop where
  err : ∀ n, X = .error n → RaisedN K n H E
  ok : ∀ f' ans, X = .ok (f', ans) → FileOk f' → ∀ p el' H2, H p = none → ExH r el H H2 → (el' = el ∨ H el' = none) → RecordAt K (rm H2 z z) r el' f' → H2 p = some (.lst (intsV ans)) → Q (.ref p) H2
def call0 (c0 : Vbpxaf.Call) : List Int → Vbpxaf.Call → Prop := fun _ c => c = c0
def call1 (mk : Int → Vbpxaf.Call) : List Int → Vbpxaf.Call → Prop := fun xs c => ∃ n, xs = [n] ∧ c = mk n
def call2 (mk : Int → Int → Vbpxaf.Call) : List Int → Vbpxaf.Call → Prop := fun xs c => ∃ n m, xs = [n, m] ∧ c = mk n m
def callT (mk : List Int → Vbpxaf.Call) : List Int → Vbpxaf.Call → Prop := fun xs c => c = mk xs
def sp_ans (K : PySem.W.Frag) (C : List Int → Vbpxaf.Call → Prop) : Sp := fun vs H Q E => ∃ (r el a z : Addr) (f : File) (xs zs : List Int) (c : Vbpxaf.Call), vs = [.ref r, .ref a] ∧ C xs c ∧ H a = some (.lst (intsV xs)) ∧ xs.length ≤ 2000 ∧ H z = some (.lst (intsV zs)) ∧ RecordAt K (rm H z z) r el f ∧ FileOk f ∧ Gives K r el z (run f c) H Q E
theorem sp_ans_len {C : List Int → Vbpxaf.Call → Prop} {vs : List V} {H : Hp} {Q : VK} {E : XK} (h : sp_ans K C vs H Q E) : vs.length = 2 := by
  obtain ⟨r, el, a, z, f, xs, zs, c, rfl, _⟩ := h
  rfl
theorem Ex.h {h l : Addr} {H H' : Hp} (e : Ex H H') : ExH h l H H' := fun b o _ _ z => e b o z
/-- an answer that changes nothing -/
theorem Gives.same {r el z : Addr} {f : File} {X : Except Int (File × List Int)} {H : Hp} {Q : VK} {E : XK} {ans : List Int} (g : Gives K r el z X H Q E) (hX : X = .ok (f, ans)) (hF : FileOk f) (hR : RecordAt K (rm H z z) r el f) : RetL (intsV ans) H Q := fun p H2 hp e2 h2 =>
  g.ok f ans hX hF p el H2 hp (Ex.h e2) (.inl rfl) (hR.ex (rm_mono e2)) h2
theorem Gives.no {r el z : Addr} {X : Except Int (File × List Int)} {H H1 : Hp} {Q : VK} {E : XK} {n : Int} {x : Str} {fs : List (Str × V)} (g : Gives K r el z X H Q E) (hX : X = .error n) (hr : Refuses x fs n) (e : Ex H H1) : Raised K x fs H1 E := (g.err n hX x fs hr).mono e
theorem ok_answer_clear (S : Top K mg) : Has P w K mg base (L2.CX P w) "answer_clear" 50 P_answer_clear (sp_ans K (call0 .clear)) := by
  refine has_ofX (g_answer_clear S) (fn_answer_clear S) sc_answer_clear bi_answer_clear (fun vs H Q E h => sp_ans_len h) (fun cdv A outer s H vs Q E hr h => ?_)
  obtain ⟨r, el, a, z, f, xs, zs, c, rfl, hc, hL, hx, hz, hRec, hF, gv⟩ := h
  cases hc
  refine ⟨_, (pss_cons (ps_expr (pe_m K (pv 0) (ok_Record_become S) (hr.mono (by omega)) (pa_cons (pe_h0 (ok_new_record S) (hr.mono (by omega)) rfl) pa_nil)))
      (pss_one (ps_ret (pe_lst (pa_cons pe_int pa_nil))))), ?_⟩
  obtain ⟨dr, nl, ru, hr0, hParts⟩ := id hRec
  have hrH := (rm_at hr0).2.2
  refine ⟨_, rfl, r, dr, _, rfl, hrH, rec_no _ _ _ (by decide +kernel) (by decide +kernel) (by decide +kernel), rfl, fun q el' H2 hq hel' e2 hRq hoff => ?_⟩
  obtain ⟨dq, nq, rq, hq0, hPq⟩ := hoff z zs hz
  have hrq : r ≠ q := fun e => by rw [e, hq] at hrH; cases hrH
  refine ⟨r, q, dr, dq, _, _, _, _, _, _, rfl, e2 _ _ hrH, (rm_at hq0).2.2, hrq, fun H3 eb3 h3 => ?_⟩
  have rz : r ≠ z := (rm_at hr0).1
  show tRet (tLst (tCons (tC (V.int 0)) tNil)) { nx := fun _ H' => Q V.non H', rt := Q } (start N_answer_clear [V.ref r, V.ref a]) H3
  refine s_retL (el_lst (ea_cons ev_c ea_nil) (by simp)) fun p H4 hp e4 h4 => gv.ok Vbpxaf.start [0] rfl start_ok p el' H4 ?_ (fun b o n1 n2 hb => e4 _ _ (eb3 _ _ n1 (e2 _ _ hb))) (.inr hel') ?_ h4
  · exact ((Ex.b e2 : ExB r H H2).trans eb3).fresh (by rw [hrH]; simp) hp (by rw [h3]; simp)
  · exact (RecordAt.moved (q := q) (dq := dq) hPq (rm_of rz rz (e2 _ _ hrH)) (rm_monoB eb3) (rm_of rz rz h3)).ex (rm_mono e4)
/-! ### a text is given -/
theorem q_bytes {σ : L2.St} {H : Hp} {D : Ends} {tz : TS} {Wx : WX} {j : Nat} {a : Addr} {t : List Int} (h : σ[j]? = some (some (.ref a))) (hL : H a = some (.lst (intsV t))) (ht : t.length ≤ 2000) (k1 : (t.all fun c => isBetween c 0 255) = true → ∀ H1, Ex H H1 → tz D σ H1) (k2 : (t.all fun c => isBetween c 0 255) = false → Raised K "WrongBytes" [("number", .int (-1))] H (WE Wx σ)) :
    tSeq (tDrop (tCallS (sp_check_bytes K) (WE Wx) (tCons (tVar j) tNil))) tz D σ H := ⟨_, h, a, t, rfl, sq_of hL, ht, k1, k2⟩
theorem q_range {σ : L2.St} {H : Hp} {D : Ends} {tz : TS} {Wx : WX} {j : Nat} {n k : Int} (h : σ[j]? = some (some (.int n))) (k1 : isBetween n 0 k = true → ∀ H1, Ex H H1 → tz D σ H1) (k2 : isBetween n 0 k = false → Raised K "OutOfRange" [("number", .int (-3))] H (WE Wx σ)) :
    tSeq (tDrop (tCallS (sp_check_range K) (WE Wx) (tCons (tVar j) (tCons (tC (.int k)) tNil)))) tz D σ H := ⟨_, h, n, k, rfl, k1, k2⟩
theorem bytes_nats {t : List Int} (h : (t.all fun c => isBetween c 0 255) = true) : intsV t = nats (t.map Int.toNat) := by
  unfold intsV nats
  rw [List.map_map]
  refine List.map_congr_left fun c hc => ?_
  have := List.all_eq_true.mp h c hc
  unfold VbpxCore.isBetween at this
  simp only [Bool.and_eq_true, decide_eq_true_eq] at this
  show V.int c = V.int (c.toNat : Int)
  rw [Int.toNat_of_nonneg this.1]
theorem text_ok {t : List Int} (h : (t.all fun c => isBetween c 0 255) = true) (hl : t.length ≤ 2000) : Vbpxaf.textIn t = .ok (t.map Int.toNat) := by
  unfold Vbpxaf.textIn VbpxCore.bytesIn
  rw [if_pos ⟨h, hl⟩]
theorem text_no {t : List Int} (h : (t.all fun c => isBetween c 0 255) = false) : Vbpxaf.textIn t = .error (-1) := by
  unfold Vbpxaf.textIn VbpxCore.bytesIn
  rw [if_neg fun z => by rw [z.1] at h; cases h]
theorem run_file_no {f : File} {t : List Int} (h : (t.all fun c => isBetween c 0 255) = false) : run f (.file t) = .error (-1) := by
  show (Vbpxaf.textIn t >>= _) = _
  rw [text_no h]
  rfl
theorem run_file {f : File} {t : List Int} (h : (t.all fun c => isBetween c 0 255) = true) (hl : t.length ≤ 2000) : run f (.file t) = (match readFile (t.map Int.toNat) with
    | .error p => .error (-1000 - (p : Int))
    | .ok g => .ok (g, VbpxCore.ints [count g, g.events.length])) := by
  show (Vbpxaf.textIn t >>= _) = _
  rw [text_ok h hl]
  rfl
theorem rm_names {H : Hp} {z : Addr} : Ex (rm H z z) H := rm_ex
theorem ok_answer_file (S : Top K mg) : Has P w K mg base (L2.CX P w) "answer_file" 50 P_answer_file (sp_ans K (callT .file)) := by
  refine has_ofX (g_answer_file S) (fn_answer_file S) sc_answer_file bi_answer_file (fun vs H Q E h => sp_ans_len h) (fun cdv A outer s H vs Q E hr h => ?_)
  obtain ⟨r, el, a, z, f, xs, zs, c, rfl, hc, hL, hx, hz, hRec, hF, gv⟩ := h
  cases hc
  refine ⟨_, (pss_cons (ps_expr (pe_hS (ok_check_bytes S) (hr.mono (by omega)) rfl (takes_of rfl rfl rfl rfl) (pa_cons (pv 1) pa_nil)))
      (pss_cons (ps_expr (pe_m K (pv 0) (ok_Record_become S) (hr.mono (by omega)) (pa_cons (pe_hS (ok_read_file S) (hr.mono (by omega)) rfl (takes_of rfl rfl rfl rfl) (pa_cons (pv 1) pa_nil)) pa_nil)))
      (pss_one (ps_ret (pe_lst (pa_cons (pe_callB (cLen K) (by rfl) (n_len S) PySem.boot_len (pa_cons (pe_f K (pv 0)) pa_nil)) (pa_cons (pe_callB (cLen K) (by rfl) (n_len S) PySem.boot_len (pa_cons (pe_f K (pv 0)) pa_nil)) pa_nil))))))), ?_⟩
  obtain ⟨dr, nl, ru, hr0, hParts⟩ := id hRec
  have hrH := (rm_at hr0).2.2
  have rz : r ≠ z := (rm_at hr0).1
  refine q_bytes rfl hL hx (fun hb H1 e1 => ?_) fun hb => gv.no (run_file_no hb) .bytes (Ex.refl H)
  have hX := run_file (f := f) hb hx
  have hL1 := e1 _ _ hL
  rw [bytes_nats hb] at hL1
  refine ⟨_, rfl, r, dr, _, rfl, e1 _ _ hrH, rec_no _ _ _ (by decide +kernel) (by decide +kernel) (by decide +kernel), _, rfl, a, z, xs.map Int.toNat, zs, rfl, sq_of hL1, (by simpa using hx), e1 _ _ hz, fun n hn => gv.no (by rw [hX, hn]) (.fault n) e1, fun g hg hFg q el' H2 hq hel' e2 hoff => ?_⟩
  obtain ⟨dq, nq, rq, hq0, hPq⟩ := id hoff
  have e12 := e1.trans e2
  have hrq : r ≠ q := fun e => by rw [e, fresh_back e1 hq] at hrH; cases hrH
  refine ⟨r, q, dr, dq, _, _, _, _, _, _, rfl, e12 _ _ hrH, (rm_at hq0).2.2, hrq, fun H3 eb3 h3 => ?_⟩
  show tRet (tLst (tCons (tCB (rLenS K) (tCons (tFld K (tVar 0) "names") tNil)) (tCons (tCB (rLenS K) (tCons (tFld K (tVar 0) "events") tNil)) tNil))) { nx := fun _ H' => Q V.non H', rt := Q } (start N_answer_file [V.ref r, V.ref a]) H3
  have hR3 : RecordAt K (rm H3 z z) r el' g := RecordAt.moved (q := q) (dq := dq) hPq (rm_of rz rz (e12 _ _ hrH)) (rm_monoB eb3) (rm_of rz rz h3)
  refine s_retL (el_lst (ea_cons (ev_officers S (hR3.ex rm_ex) (ev_var rfl)) (ea_cons (ev_events S (hR3.ex rm_ex) (ev_var rfl)) ea_nil)) (by simp)) fun p H4 hp e4 h4 => gv.ok g (VbpxCore.ints [count g, g.events.length]) (by rw [hX, hg]) hFg p el' H4 ?_ (fun b o n1 n2 hb => e4 _ _ (eb3 _ _ n1 (e12 _ _ hb))) (.inr (fresh_back e1 hel')) (hR3.ex (rm_mono e4)) h4
  exact ((Ex.b e12 : ExB r H H2).trans eb3).fresh (by rw [hrH]; simp) hp (by rw [h3]; simp)
/-- l.append(e), e any reading -/
theorem q_appX {σ : L2.St} {H : Hp} {D : Ends} {tz : TS} {ta te : TE} {l : Addr} {xs : List V} (hl : H l = some (.lst xs)) (ha : Ev ta σ H (.ref l))
    (k : ∀ H1, Ex H H1 → te σ H1 fun v H2 => ∃ (a : Addr) (ys : List V) (v' : V), V.ref l = .ref a ∧ [v] = [v'] ∧ H2 a = some (.lst ys) ∧ ys.length < sizeLine ∧ tz D σ (upd H2 a (.lst (ys ++ [v'])))) : tSeq (tDrop (tBM K "list" rAppend ta (tCons te tNil))) tz D σ H :=
  ha H (Ex.refl H) _ fun H1 e1 => ⟨.inl ⟨rfl, xs, sq_of (e1 l _ hl)⟩, k H1 e1⟩
/-! ### an event -/
theorem run_event_no {f : File} {t : List Int} (h : (t.all fun c => isBetween c 0 255) = false) : run f (.event t) = .error (-1) := by
  show (Vbpxaf.textIn t >>= _) = _
  rw [text_no h]
  rfl
theorem run_event {f : File} {t : List Int} (h : (t.all fun c => isBetween c 0 255) = true) (hl : t.length ≤ 2000) : run f (.event t) = (match Vbpxaf.readEvent f (t.map Int.toNat) with
    | .error p => .error (-1000 - (p : Int))
    | .ok x => .ok (put f x, [((f.events.length + 1 : Nat) : Int)])) := by
  show (Vbpxaf.textIn t >>= _) = _
  rw [text_ok h hl]
  rfl
theorem ok_answer_event (S : Top K mg) : Has P w K mg base (L2.CX P w) "answer_event" 50 P_answer_event (sp_ans K (callT .event)) := by
  refine has_ofX (g_answer_event S) (fn_answer_event S) sc_answer_event bi_answer_event (fun vs H Q E h => sp_ans_len h) (fun cdv A outer s H vs Q E hr h => ?_)
  obtain ⟨r, el, a, z, f, xs, zs, c, rfl, hc, hL, hx, hz, hRec, hF, gv⟩ := h
  cases hc
  refine ⟨_, (pss_cons (ps_expr (pe_hS (ok_check_bytes S) (hr.mono (by omega)) rfl (takes_of rfl rfl rfl rfl) (pa_cons (pv 1) pa_nil)))
      (pss_cons (ps_expr (pe_bmK K PySem.F.plainAttrs_list PySem.F.slot_list_append PySem.F.type_list_append mt_append (pe_f K (pv 0)) (pa_cons (pe_hS (ok_read_one_event S) (hr.mono (by omega)) rfl (takes_of rfl rfl rfl rfl) (pa_cons (pv 1) (pa_cons (pv 0) pa_nil))) pa_nil)))
      (pss_one (ps_ret (pe_lst (pa_cons (pe_callB (cLen K) (by rfl) (n_len S) PySem.boot_len (pa_cons (pe_f K (pv 0)) pa_nil)) pa_nil)))))), ?_⟩
  refine q_bytes rfl hL hx (fun hb H1 e1 => ?_) fun hb => gv.no (run_event_no hb) .bytes (Ex.refl H)
  have hX := run_event (f := f) hb hx
  have hL1 := e1 _ _ hL
  rw [bytes_nats hb] at hL1
  have hRec1 := hRec.ex (rm_mono e1)
  obtain ⟨dr, nl, ru, hr0, hN, hRu, ⟨ps, hel, hps⟩, hne⟩ := id hRec1
  obtain ⟨elz, _, helH⟩ := rm_at hel
  have hrH := (rm_at hr0).2.2
  refine q_appX helH (ev_fld (ev_var rfl) hrH (cl_Record S) (na_Record_events S) (rec_events _ _ _)) fun H2 e2 => ⟨_, rfl, _, rfl, a, r, el, xs.map Int.toNat, f, rfl, sq_of (e2 _ _ hL1), (by simpa using hx), (hRec1.ex rm_ex).ex e2, hF, fun n hn => gv.no (by rw [hX, hn]) (.fault n) (e1.trans e2), fun x hx' hm h60 p dp po H3 hp hpo e3 hev hoff => ?_⟩
  have e12 := e1.trans e2
  have e13 := e12.trans e3
  have hRec3 := hRec.ex (rm_mono e13)
  have pz := Ne.symm (lst_apart (e13 _ _ hz) hev)
  have poz : po ≠ z := fun y => by rw [y, e12 _ _ hz] at hpo; cases hpo
  have poel : po ≠ el := fun y => by rw [y, e2 _ _ helH] at hpo; cases hpo
  obtain ⟨ps3, hel3, hpsl, hpush⟩ := hRec3.push (rm_of pz pz hev) (rm_of poz poz hoff) poel
  refine ⟨el, ps3.map V.ref, .ref p, rfl, rfl, (rm_at hel3).2.2, sz_lt (by rw [List.length_map, hpsl]; omega), ?_⟩
  have hR4 := hpush.ex (rm_upd elz elz)
  refine s_retL (el_lst (ea_cons (ev_events S (hR4.ex rm_ex) (ev_var rfl)) ea_nil) (by simp)) fun pp H5 hpp e5 h5 => gv.ok (put f x) [((f.events.length + 1 : Nat) : Int)] (by rw [hX, hx']) (put_ok hF hm h60) pp el H5 ?_ (fun b o n1 n2 hb => ?_) (.inl rfl) (hR4.ex (rm_mono e5)) ?_
  · by_cases e : pp = el
    · rw [e, upd_same] at hpp
      cases hpp
    · rw [upd_ne e] at hpp
      exact fresh_back e13 hpp
  · refine e5 _ _ ?_
    rw [upd_ne n2]
    exact e13 _ _ hb
  · rw [h5]
    show some (HO.lst [V.int ((f.events ++ [x]).length : Int)]) = some (HO.lst [V.int ((f.events.length + 1 : Nat) : Int)])
    rw [List.length_append]
    rfl
/-! ### undo -/
/-- a number is checked -/
theorem q_one {σ : L2.St} {H : Hp} {D : Ends} {tz : TS} {Wx : WX} {te tr : TE} {hi : Nat} {g : File → Nat} {n : Int} {r el : Addr} {f : File} (h : Ev te σ H (.int n)) (h2 : Ev tr σ H (.ref r)) (hR : RecordAt K H r el f)
    (k1 : ∀ c, oneOf hi (g f) n = .ok c → ∀ H1, Ex H H1 → tz D σ H1) (k2 : ∀ e, oneOf hi (g f) n = .error e → RaisedN K e H (WE Wx σ)) :
    tSeq (tDrop (tCallS (sp_check_one K hi g) (WE Wx) (tCons te (tCons tr tNil)))) tz D σ H := h H (Ex.refl H) _ fun H1 e1 => h2 H1 e1 _ fun H2 e2 => ⟨n, r, el, f, rfl, hR.ex (e1.trans e2), fun c hc H3 e3 => k1 c hc H3 ((e1.trans e2).trans e3), fun e he => (k2 e he).mono (e1.trans e2)⟩
theorem run_undo {f : File} {n : Int} : run f (.undo n) = (oneOf 60 (f.events.length + 1) n >>= fun c => .ok ({ f with events := f.events.take c }, [(c : Int)])) := by
  show (Vbpxaf.eventsTo f n >>= _) = _
  rw [events_one]
  rfl
theorem take_ok {f : File} {n : Nat} (hF : FileOk f) : FileOk { f with events := f.events.take n } := by
  refine ⟨Names.congr (f := f) rfl hF.names, ok_congr (f := f) (g := { f with events := f.events.take n }) rfl hF.rule, hF.size, fun i e he => ?_, ?_⟩
  · have he' : (f.events.take n)[i]? = some e := he
    have hi := (List.getElem?_eq_some_iff.mp he').1
    rw [List.length_take] at hi
    rw [List.getElem?_take_of_lt (by omega)] at he'
    have := hF.valid i e he'
    have e2 : (f.events.take n).take i = f.events.take i := by rw [List.take_take, Nat.min_eq_left (by omega)]
    show mayBe { f with events := f.events.take n } (((f.events.take n).take i).foldl done Vbpxaf.begin_) e = true
    rw [e2]
    cases e <;> exact this
  · show (f.events.take n).length ≤ 60
    have := hF.few
    rw [List.length_take]
    omega
theorem paired_take {α β : Type} {F : α → β → Prop} : ∀ {l : List α} {m : List β} (n : Nat), Paired F l m → Paired F (l.take n) (m.take n)
  | _, _, 0, _ => .nil
  | _, _, _ + 1, .nil => .nil
  | _, _, n + 1, .cons h r => .cons h (paired_take n r)
theorem at_first {n : Int} {l : List Int} : atI (intsV (n :: l)) 0 = some (V.int n) := atI_nat (j := 0) rfl
theorem cut_take (xs : List V) {n : Int} (h0 : 0 ≤ n) (hn : n.toNat ≤ xs.length) : cutV xs none (some n) = xs.take n.toNat := by
  obtain ⟨m, rfl⟩ := Int.eq_ofNat_of_zero_le h0
  unfold cutV
  rw [HT.sIx_nat, HT.sIx_none, List.drop_zero, Nat.sub_zero]
  rw [Int.toNat_natCast] at hn ⊢
  rw [Nat.min_eq_left hn]
theorem q_fldL {σ : L2.St} {H : Hp} {D : Ends} {tz : TS} {ta tv : TE} {xs : List V} {a C dx : Addr} {fs : List (Str × V)} {f : Str} (hv : EvL tv σ H xs) (ha : Ev ta σ H (.ref a)) (ho : H a = some (.ins C dx fs)) (c : Cls K C) (n : NoAttr K C f) (hl : fs.length < 1000)
    (k : ∀ p H1, H p = none → Ex H H1 → H1 p = some (.lst xs) → tz D σ (upd H1 a (.ins C dx (putF f (.ref p) fs)))) : tSeq (sFld K ta tv f) tz D σ H := s_fldL (D := { D with nx := tz D }) hv ha ho c n hl k
theorem ok_answer_undo (S : Top K mg) : Has P w K mg base (L2.CX P w) "answer_undo" 50 P_answer_undo (sp_ans K (call1 .undo)) := by
  refine has_ofX (g_answer_undo S) (fn_answer_undo S) sc_answer_undo bi_answer_undo (fun vs H Q E h => sp_ans_len h) (fun cdv A outer s H vs Q E hr h => ?_)
  obtain ⟨r, el, a, z, f, xs, zs, c, rfl, ⟨n, rfl, rfl⟩, hL, hx, hz, hRec, hF, gv⟩ := h
  refine ⟨_, (pss_cons (ps_set (i := 2) sc_answer_undo.nd rfl (Or.inl rfl) (pe_ix (ixL K) (pv 1) pe_int (fun _ _ => rfl)))
      (pss_cons (ps_expr (pe_hS (ok_check_how_many_events S) (hr.mono (by omega)) rfl (takes_of rfl rfl rfl rfl) (pa_cons (pv 2) (pa_cons (pv 0) pa_nil))))
      (pss_cons (ps_f K (pv 0) (pe_slice (slL K) (pe_f K (pv 0)) po_none (po_some (pv 2))))
      (pss_one (ps_ret (pe_lst (pa_cons (pv 2) pa_nil))))))), ?_⟩
  have hX := run_undo (f := f) (n := n)
  refine q_asg (v := .int n) (ev_op (ev_var rfl) ev_c (rv_ixL (sq_of hL) at_first)) fun H1 e1 => ?_
  refine q_one (ev_var rfl) (ev_var rfl) ((hRec.ex (rm_mono e1)).ex rm_ex) (fun c hc H3 e3 => ?_) fun e he => RaisedN.mono (gv.err e (by rw [hX, he]; rfl)) e1
  rw [hc] at hX
  obtain ⟨rfl, hlt, _⟩ := oneOf_ok hc
  have h0 : (0 : Int) ≤ (c : Int) := by omega
  have hle : c ≤ f.events.length := by omega
  have e13 := e1.trans e3
  have hRec3 := hRec.ex (rm_mono e13)
  obtain ⟨dr, nl, ru, hr0, hN, hRu, ⟨ps, hel, hps⟩, hne⟩ := id hRec3
  obtain ⟨elz, _, helH⟩ := rm_at hel
  obtain ⟨rz, _, hrH⟩ := rm_at hr0
  refine q_fldL (el_sl (ev_fld (ev_var rfl) hrH (cl_Record S) (na_Record_events S) (rec_events _ _ _)) eo_none (eo_some (ev_var rfl)) (sq_of helH)) (ev_var rfl) hrH (cl_Record S) (na_Record_events S) (by simp [nmRecord]) fun el' H4 hel' e4 hl4 => ?_
  have hlen := paired_len hps
  rw [rec_put3]
  rw [cut_take _ h0 (by rw [List.length_map, hlen]; exact hle), Int.toNat_natCast, ← List.map_take] at hl4
  have hzH4 := (e13.trans e4) _ _ hz
  have elz' : el' ≠ z := fun y => by rw [y, e13 _ _ hz] at hel'; cases hel'
  have hnl' : nl ≠ el' := fun y => by rw [← y, (rm_at hN.1).2.2] at hel'; cases hel'
  have hP : PartsAt K (rm H4 z z) nl ru el' { f with events := f.events.take c } := ⟨NamesAt.congr (f := f) rfl (hN.ex (rm_mono e4)), RuleAt.congr (f := f) rfl (RuleObj.ex hRu (rm_mono e4)), ⟨ps.take c, rm_of elz' elz' hl4, paired_take _ (L2.Paired.mapP hps fun _ _ y => y.ex (rm_mono e4))⟩, hnl'⟩
  have hR5 : RecordAt K (rm (upd H4 r (.ins (He.ga K "Record") dr (nmRecord.zip [.ref nl, .ref ru, .ref el']))) z z) r el' { f with events := f.events.take c } := RecordAt.moved (q := r) (dq := dr) hP (rm_of rz rz (e4 _ _ hrH)) (rm_monoB ExB.upd) (rm_of rz rz upd_same)
  refine s_retL (el_lst (ea_cons (ev_var rfl) ea_nil) (by simp)) fun p H6 hp e6 h6 => gv.ok _ _ hX (take_ok hF) p el' H6 ?_ (fun b o n1 n2 hb => ?_) (.inr (fresh_back e13 hel')) (hR5.ex (rm_mono e6)) ?_
  · by_cases e : p = r
    · rw [e, upd_same] at hp
      cases hp
    · rw [upd_ne e] at hp
      exact fresh_back (e13.trans e4) hp
  · refine e6 _ _ ?_
    rw [upd_ne n1]
    exact e4 _ _ (e13 _ _ hb)
  · rw [h6]
    rfl
end
end CK
/-! calls.py: the calls that tell -/
namespace CK
open PySem PySem.Spec PyProof.Rows L2 Evl
open Vbpxaf (bit count opens File nameOf Now mayBe done acting may W now put readFile run)
open VbpxCore (isBetween)
section
variable {P : Program} {w : World} {K : PySem.W.Frag} {mg : Str → Option Value} {base : Heap}
theorem comp_len {f : File} (h : count f ≤ 6) (p : Nat → Bool) : ((Vbpxaf.companies f).filter p).length ≤ 64 := by
  have h1 := List.length_filter_le p (Vbpxaf.companies f)
  unfold Vbpxaf.companies at h1 ⊢
  rw [List.length_range] at h1
  have := pow64 h
  omega
theorem el_recL {σ : L2.St} {H : Hp} {r el : Addr} {f : File} {E : XK} {g : File → List Nat} {te : TE} (hR : RecordAt K H r el f) (h : Ev te σ H (.ref r)) : EvL (tCall (sp_rec_list K g) [] E (tCons te tNil)) σ H (nats (g f)) :=
  el_h (ea_cons h ea_nil) fun H1 e1 Q E q => ⟨r, el, f, rfl, hR.ex e1, q⟩
theorem least_len {f : File} (h : count f ≤ 6) : (Vbpxaf.least f).length ≤ 64 := comp_len h _
theorem forb_len {f : File} (h : count f ≤ 6) : (Vbpxaf.forbidden f).length ≤ 64 := comp_len h _
theorem locks_len {f : File} (h : count f ≤ 6) : (Vbpxaf.locks f).length ≤ 64 := by
  unfold Vbpxaf.locks
  rw [List.length_map]
  exact forb_len h
theorem ok_answer_least (S : Top K mg) : Has P w K mg base (L2.CX P w) "answer_least" 50 P_answer_least (sp_ans K (call0 .least)) := by
  refine has_ofX (g_answer_least S) (fn_answer_least S) sc_answer_least bi_answer_least (fun vs H Q E h => sp_ans_len h) (fun cdv A outer s H vs Q E hr h => ?_)
  obtain ⟨r, el, a, z, f, xs, zs, c, rfl, hc, hL, hx, hz, hRec, hF, gv⟩ := h
  cases hc
  refine ⟨_, (pss_one (ps_ret (pe_h (ok_counted S) (hr.mono (by omega)) rfl (pa_cons (pe_h (ok_record_least S) (hr.mono (by omega)) rfl (pa_cons (pv 0) pa_nil)) pa_nil)))), ?_⟩
  have h6 := least_len (f := f) hF.names.few
  exact s_retL (el_counted (el_recL (hRec.ex rm_ex) (ev_var rfl)) (by omega)) (gv.same rfl hF hRec)
theorem ok_answer_forbidden (S : Top K mg) : Has P w K mg base (L2.CX P w) "answer_forbidden" 50 P_answer_forbidden (sp_ans K (call0 .forbidden)) := by
  refine has_ofX (g_answer_forbidden S) (fn_answer_forbidden S) sc_answer_forbidden bi_answer_forbidden (fun vs H Q E h => sp_ans_len h) (fun cdv A outer s H vs Q E hr h => ?_)
  obtain ⟨r, el, a, z, f, xs, zs, c, rfl, hc, hL, hx, hz, hRec, hF, gv⟩ := h
  cases hc
  refine ⟨_, (pss_one (ps_ret (pe_h (ok_counted S) (hr.mono (by omega)) rfl (pa_cons (pe_h (ok_record_forbidden S) (hr.mono (by omega)) rfl (pa_cons (pv 0) pa_nil)) pa_nil)))), ?_⟩
  have h6 := forb_len (f := f) hF.names.few
  exact s_retL (el_counted (el_recL (hRec.ex rm_ex) (ev_var rfl)) (by omega)) (gv.same rfl hF hRec)
theorem ok_answer_locks (S : Top K mg) : Has P w K mg base (L2.CX P w) "answer_locks" 50 P_answer_locks (sp_ans K (call0 .locks)) := by
  refine has_ofX (g_answer_locks S) (fn_answer_locks S) sc_answer_locks bi_answer_locks (fun vs H Q E h => sp_ans_len h) (fun cdv A outer s H vs Q E hr h => ?_)
  obtain ⟨r, el, a, z, f, xs, zs, c, rfl, hc, hL, hx, hz, hRec, hF, gv⟩ := h
  cases hc
  refine ⟨_, (pss_one (ps_ret (pe_h (ok_counted S) (hr.mono (by omega)) rfl (pa_cons (pe_h (ok_record_locks S) (hr.mono (by omega)) rfl (pa_cons (pv 0) pa_nil)) pa_nil)))), ?_⟩
  have h6 := locks_len (f := f) hF.names.few
  exact s_retL (el_counted (el_recL (hRec.ex rm_ex) (ev_var rfl)) (by omega)) (gv.same rfl hF hRec)
theorem ok_answer_told (S : Top K mg) : Has P w K mg base (L2.CX P w) "answer_told" 50 P_answer_told (sp_ans K (call0 .told)) := by
  refine has_ofX (g_answer_told S) (fn_answer_told S) sc_answer_told bi_answer_told (fun vs H Q E h => sp_ans_len h) (fun cdv A outer s H vs Q E hr h => ?_)
  obtain ⟨r, el, a, z, f, xs, zs, c, rfl, hc, hL, hx, hz, hRec, hF, gv⟩ := h
  cases hc
  refine ⟨_, (pss_cons (ps_set (i := 2) sc_answer_told.nd rfl (Or.inl rfl) (pe_lst (pa_cons (pe_callB (cLen K) (by rfl) (n_len S) PySem.boot_len (pa_cons (pe_h (ok_record_least S) (hr.mono (by omega)) rfl (pa_cons (pv 0) pa_nil)) pa_nil)) (pa_cons (pe_callB (cLen K) (by rfl) (n_len S) PySem.boot_len (pa_cons (pe_h (ok_record_forbidden S) (hr.mono (by omega)) rfl (pa_cons (pv 0) pa_nil)) pa_nil)) pa_nil))))
      (pss_one (ps_ret (pe_op op_cat (pe_lst (pa_cons (pe_callB (cLen K) (by rfl) (n_len S) PySem.boot_len (pa_cons (pe_f K (pv 0)) pa_nil)) (pa_cons (pe_callB (cLen K) (by rfl) (n_len S) PySem.boot_len (pa_cons (pe_f K (pv 0)) pa_nil)) pa_nil))) (pv 2))))), ?_⟩
  have hR := hRec.ex rm_ex
  refine q_asgL (el_lst (ea_cons (ev_lenN (el_recL hR (ev_var rfl))) (ea_cons (ev_lenN (el_recL hR (ev_var rfl))) ea_nil)) (by simp)) fun p H1 hp e1 h1 => ?_
  refine s_retL (el_is (el_catL (el_lst (ea_cons (ev_officers S (hR.ex e1) (ev_var rfl)) (ea_cons (ev_events S (hR.ex e1) (ev_var rfl)) ea_nil)) (by simp)) (ev_var rfl) h1 (by simp)) ?_) fun q H2 hq e2 h2 => gv.same rfl hF hRec q H2 (fresh_back e1 hq) (e1.trans e2) h2
  rw [nats_len, nats_len]
  rfl
/-! ### may -/
theorem run_may {f : File} {n : Int} : run f (.may n) = (oneOf 63 (2 ^ count f) n >>= fun c => .ok (f, [if may f c = true then 1 else 0])) := by
  show (Vbpxaf.company f n >>= _) = _
  rw [company_one]
  rfl
theorem ok_answer_may (S : Top K mg) : Has P w K mg base (L2.CX P w) "answer_may" 50 P_answer_may (sp_ans K (call1 .may)) := by
  refine has_ofX (g_answer_may S) (fn_answer_may S) sc_answer_may bi_answer_may (fun vs H Q E h => sp_ans_len h) (fun cdv A outer s H vs Q E hr h => ?_)
  obtain ⟨r, el, a, z, f, xs, zs, c, rfl, ⟨n, rfl, rfl⟩, hL, hx, hz, hRec, hF, gv⟩ := h
  refine ⟨_, (pss_cons (ps_set (i := 2) sc_answer_may.nd rfl (Or.inl rfl) (pe_ix (ixL K) (pv 1) pe_int (fun _ _ => rfl)))
      (pss_cons (ps_expr (pe_hS (ok_check_company S) (hr.mono (by omega)) rfl (takes_of rfl rfl rfl rfl) (pa_cons (pv 2) (pa_cons (pv 0) pa_nil))))
      (pss_one (ps_ret (pe_lst (pa_cons (pe_h (ok_yes_or_no S) (hr.mono (by omega)) rfl (pa_cons (pe_ix (ixL K) (pe_f K (pe_f K (pv 0))) (pv 2) (fun _ _ => rfl)) pa_nil)) pa_nil)))))), ?_⟩
  have hX := run_may (f := f) (n := n)
  refine q_asg (v := .int n) (ev_op (ev_var rfl) ev_c (rv_ixL (sq_of hL) at_first)) fun H1 e1 => ?_
  refine q_one (ev_var rfl) (ev_var rfl) ((hRec.ex (rm_mono e1)).ex rm_ex) (fun c hc H3 e3 => ?_) fun e he => RaisedN.mono (gv.err e (by rw [hX, he]; rfl)) e1
  rw [hc] at hX
  obtain ⟨rfl, hlt, _⟩ := oneOf_ok hc
  have e13 := e1.trans e3
  have hR3 := (hRec.ex (rm_mono e13)).ex rm_ex
  obtain ⟨tb3, hT3, hE3⟩ := ev_allowed S hR3 (te := tVar 0) (σ := [some (.ref r), some (.ref a), some (.int c)]) (ev_var rfl)
  exact s_retL (el_lst (vs := intsV [if may f c = true then 1 else 0]) (ea_cons (ev_yes (ev_may hT3 hlt hE3 (ev_var rfl))) ea_nil) (by simp [intsV])) fun q H4 hq e4 h4 => gv.same hX hF hRec q H4 (fresh_back e13 hq) (e13.trans e4) h4
/-! ### keys, swings -/
theorem given_rng (k : Nat) (g : Nat → Nat) : given (Int.toNat (k : Int)) (fun _ => true) (fun i => V.int (g i : Nat)) = nats ((List.range k).map g) := by
  unfold given nats
  rw [filter_true, Int.toNat_natCast, List.map_map]
  rfl
theorem lock_lt {f : File} (h : count f ≤ 6) : ∀ l ∈ Vbpxaf.locks f, l < 64 := fun l hl => by
  unfold Vbpxaf.locks at hl
  obtain ⟨c, _, rfl⟩ := List.mem_map.mp hl
  have := pow64 h
  have h2 := Nat.two_pow_pos (count f)
  unfold Vbpxaf.all
  omega
theorem ok_answer_keys (S : Top K mg) : Has P w K mg base (L2.CX P w) "answer_keys" 50 P_answer_keys (sp_ans K (call0 .keys)) := by
  refine has_ofX (g_answer_keys S) (fn_answer_keys S) sc_answer_keys bi_answer_keys (fun vs H Q E h => sp_ans_len h) (fun cdv A outer s H vs Q E hr h => ?_)
  obtain ⟨r, el, a, z, f, xs, zs, c, rfl, hc, hL, hx, hz, hRec, hF, gv⟩ := h
  cases hc
  refine ⟨_, (pss_cons (ps_set (i := 2) sc_answer_keys.nd rfl (Or.inr rfl) (pe_h (ok_record_locks S) (hr.mono (by omega)) rfl (pa_cons (pv 0) pa_nil)))
      (pss_one (ps_ret (pe_h (ok_counted S) (hr.mono (by omega)) rfl (pa_cons (pe_lc (own := [("officer", 3)]) rfl sc_answer_keys.nd (pi_range1 (by rfl) (n_range S) (pa_cons (pe_callB (cLen K) (by rfl) (n_len S) PySem.boot_len (pa_cons (pe_f K (pv 0)) pa_nil)) pa_nil)) (blkOk_by (own := [("officer", 3)]) (N := N_answer_keys) (sc := defScope s_answer_keys) (by decide +kernel)) (fun _ _ _ _ _ => (pg_name (i := 3) sc_answer_keys.nd rfl (Or.inl rfl))) (fun _ _ _ _ _ => pts_nil) (fun _ _ _ _ _ => (pe_h (ok_key_count S) (hr.mono (by omega)) rfl (pa_cons (pv 2) (pa_cons (pv 3) pa_nil))))) pa_nil))))), ?_⟩
  have h6 : count f ≤ 6 := hF.names.few
  have hR := hRec.ex rm_ex
  have hl := locks_len h6
  refine q_asgL (el_recL hR (ev_var rfl)) fun p H1 hp e1 h1 => ?_
  refine s_retL (el_counted (l := (List.range (count f)).map (Vbpxaf.keysOf f)) (el_is (el_lcR1 (fun _ => true) (fun i => V.int (Vbpxaf.keysOf f i : Nat)) (ea_cons (ev_officers S (hR.ex e1) (ev_var rfl)) ea_nil) ⟨by omega, by omega⟩ (fun _ => rfl) (fun i H2 e2 hi => et_yes) (fun i H2 e2 hi _ => ?_)) (given_rng _ _)) (by simp; omega)) fun q H2 hq e2 h2 => gv.same rfl hF hRec q H2 (fresh_back e1 hq) (e1.trans e2) h2
  exact ev_h (ea_cons (ev_var rfl) (ea_cons (ev_var rfl) ea_nil)) fun H3 e3 Q E q => ⟨p, Vbpxaf.locks f, i, rfl, sq_of ((e2.trans e3) _ _ h1), by omega, by omega, lock_lt h6, q⟩
theorem ok_answer_swings (S : Top K mg) : Has P w K mg base (L2.CX P w) "answer_swings" 50 P_answer_swings (sp_ans K (call0 .swings)) := by
  refine has_ofX (g_answer_swings S) (fn_answer_swings S) sc_answer_swings bi_answer_swings (fun vs H Q E h => sp_ans_len h) (fun cdv A outer s H vs Q E hr h => ?_)
  obtain ⟨r, el, a, z, f, xs, zs, c, rfl, hc, hL, hx, hz, hRec, hF, gv⟩ := h
  cases hc
  refine ⟨_, (pss_one (ps_ret (pe_h (ok_counted S) (hr.mono (by omega)) rfl (pa_cons (pe_lc (own := [("officer", 2)]) rfl sc_answer_swings.nd (pi_range1 (by rfl) (n_range S) (pa_cons (pe_callB (cLen K) (by rfl) (n_len S) PySem.boot_len (pa_cons (pe_f K (pv 0)) pa_nil)) pa_nil)) (blkOk_by (own := [("officer", 2)]) (N := N_answer_swings) (sc := defScope s_answer_swings) (by decide +kernel)) (fun _ _ _ _ _ => (pg_name (i := 2) sc_answer_swings.nd rfl (Or.inl rfl))) (fun _ _ _ _ _ => pts_nil) (fun _ _ _ _ _ => (pe_h (ok_swing_count S) (hr.mono (by omega)) rfl (pa_cons (pe_f K (pe_f K (pv 0))) (pa_cons (pv 2) pa_nil))))) pa_nil)))), ?_⟩
  have h6 : count f ≤ 6 := hF.names.few
  have hR := hRec.ex rm_ex
  refine s_retL (el_counted (l := (List.range (count f)).map fun n => (Vbpxaf.swings f n).length) (el_is (el_lcR1 (fun _ => true) (fun i => V.int ((Vbpxaf.swings f i).length : Nat)) (ea_cons (ev_officers S hR (ev_var rfl)) ea_nil) ⟨by omega, by omega⟩ (fun _ => rfl) (fun i H2 e2 hi => et_yes) (fun i H2 e2 hi _ => ?_)) (given_rng _ _)) (by simp; omega)) (gv.same rfl hF hRec)
  obtain ⟨tb, hT, hE⟩ := ev_allowed S (hR.ex e2) (te := tVar 0) (σ := [some (.ref r), some (.ref a), some (.int (i : Int))]) (ev_var rfl)
  exact ev_h (ea_cons hE (ea_cons (ev_var rfl) ea_nil)) fun H3 e3 Q E q => ⟨tb, count f, i, may f, rfl, hT.ex e3, by omega, q⟩
/-! ### a scheme -/
theorem run_scheme {f : File} {l : List Int} (h : locksOk f l) : run f (.scheme l) = .ok (f, sameAns f (opens' (count f) (l.map Int.toNat))) := by
  have e : run f (.scheme l) = (match Vbpxaf.wrong f (l.map Int.toNat) with
    | none => .ok (f, [1])
    | some c => .ok (f, VbpxCore.ints [0, c])) := if_pos h
  rw [e]
  show _ = Except.ok (f, sameAns f fun c => Vbpxaf.unlocks f (l.map Int.toNat) c)
  unfold sameAns Vbpxaf.wrong
  cases (Vbpxaf.companies f).find? fun c => Vbpxaf.unlocks f (l.map Int.toNat) c != may f c <;> rfl
theorem run_scheme_no {f : File} {l : List Int} (h : ¬ locksOk f l) : run f (.scheme l) = .error (-4) := if_neg h
theorem nn_nats {t : List Int} {k : Int} (h : (t.all fun c => isBetween c 0 k) = true) : intsV t = nats (t.map Int.toNat) := by
  unfold intsV nats
  rw [List.map_map]
  refine List.map_congr_left fun c hc => ?_
  have := between_0 (List.all_eq_true.mp h c hc)
  show V.int c = V.int (c.toNat : Int)
  rw [Int.toNat_of_nonneg this.1]
theorem q_list {σ : L2.St} {H : Hp} {D : Ends} {tz : TS} {Wx : WX} {C : File → List Int → Prop} {ta tr : TE} {a r el : Addr} {t : List Int} {f : File} (h : Ev ta σ H (.ref a)) (h2 : Ev tr σ H (.ref r)) (hL : H a = some (.lst (intsV t))) (ht : t.length ≤ 2000) (hR : RecordAt K H r el f)
    (k1 : C f t → ∀ H1, Ex H H1 → tz D σ H1) (k2 : ¬ C f t → RaisedN K (-4) H (WE Wx σ)) :
    tSeq (tDrop (tCallS (sp_check_list K C) (WE Wx) (tCons ta (tCons tr tNil)))) tz D σ H := h H (Ex.refl H) _ fun H1 e1 => h2 H1 e1 _ fun H2 e2 => ⟨a, r, el, t, f, rfl, sq_of ((e1.trans e2) _ _ hL), ht, hR.ex (e1.trans e2), fun hb H3 e3 => k1 hb H3 ((e1.trans e2).trans e3), fun hb => (k2 hb).mono (e1.trans e2)⟩
theorem el_same {σ : L2.St} {H : Hp} {tr tb : TE} {r el : Addr} {f : File} {g : Nat → Bool} {E : XK} (h : Ev tr σ H (.ref r)) (hR : RecordAt K H r el f) (hn : count f ≤ 6) (h2 : EvL tb σ H (tab (count f) g)) : EvL (tCall (sp_same K) [] E (tCons tr (tCons tb tNil))) σ H (intsV (sameAns f g)) := fun H1 e1 Q q =>
  h H1 e1 _ fun H2 e2 => h2 H2 (e1.trans e2) _ fun b H3 hb e3 h3 => ⟨r, el, b, f, g, rfl, hR.ex ((e1.trans e2).trans e3), ⟨hn, sq_of h3⟩, fun p H4 hp e4 h4 => q p H4 (fresh_back (e2.trans e3) hp) ((e2.trans e3).trans e4) h4⟩
theorem ok_answer_scheme (S : Top K mg) : Has P w K mg base (L2.CX P w) "answer_scheme" 50 P_answer_scheme (sp_ans K (callT .scheme)) := by
  refine has_ofX (g_answer_scheme S) (fn_answer_scheme S) sc_answer_scheme bi_answer_scheme (fun vs H Q E h => sp_ans_len h) (fun cdv A outer s H vs Q E hr h => ?_)
  obtain ⟨r, el, a, z, f, xs, zs, c, rfl, hc, hL, hx, hz, hRec, hF, gv⟩ := h
  cases hc
  refine ⟨_, (pss_cons (ps_expr (pe_hS (ok_check_locks S) (hr.mono (by omega)) rfl (takes_of rfl rfl rfl rfl) (pa_cons (pv 1) (pa_cons (pv 0) pa_nil))))
      (pss_one (ps_ret (pe_h (ok_same_or_first_otherwise S) (hr.mono (by omega)) rfl (pa_cons (pv 0) (pa_cons (pe_h (ok_allowed_by_locks S) (hr.mono (by omega)) rfl (pa_cons (pv 1) (pa_cons (pe_callB (cLen K) (by rfl) (n_len S) PySem.boot_len (pa_cons (pe_f K (pv 0)) pa_nil)) pa_nil))) pa_nil)))))), ?_⟩
  have h6 : count f ≤ 6 := hF.names.few
  have hR := hRec.ex rm_ex
  refine q_list (ev_var rfl) (ev_var rfl) hL hx hR (fun hb H1 e1 => ?_) fun hb => gv.err _ (run_scheme_no hb)
  have hL1 := e1 _ _ hL
  rw [nn_nats hb.2] at hL1
  have hlt : ∀ l ∈ xs.map Int.toNat, l < 2 ^ count f := fun l hl => by
    obtain ⟨c, hc, rfl⟩ := List.mem_map.mp hl
    have := between_0 (List.all_eq_true.mp hb.2 c hc)
    have h2 := Nat.two_pow_pos (count f)
    omega
  refine s_retL (el_same (ev_var rfl) (hR.ex e1) h6 (el_h (ea_cons (ev_var rfl) (ea_cons (ev_officers S (hR.ex e1) (ev_var rfl)) ea_nil)) fun H2 e2 Q E q => ⟨a, xs.map Int.toNat, count f, rfl, sq_of (e2 _ _ hL1), h6, by rw [List.length_map]; have := hb.1; omega, hlt, q⟩)) fun q H3 hq e3 h3 => gv.same (run_scheme hb) hF hRec q H3 (fresh_back e1 hq) (e1.trans e3) h3
end
end CK
/-! calls.py: text -/
namespace CK
open PySem PySem.Spec PyProof.Rows L2 Evl
open Vbpxaf (bit count opens File nameOf Now mayBe done acting may W now put readFile run fileText)
open VbpxCore (isBetween between)
section
variable {P : Program} {w : World} {K : PySem.W.Frag} {mg : Str → Option Value} {base : Heap}
/-- a comprehension over the signs of a text that may be long -/
theorem el_signs {σ : L2.St} {H : Hp} {tl te : TE} {j : Nat} {vs : List Nat} {z : List Nat} (v : Nat → V) (h : Ev tl σ H (.str (st z))) (hz : z.length ≤ 16000000) (hw : ∀ x, wipe ((wipe σ vs).set j (some x)) vs = wipe σ vs)
    (he : ∀ (i c : Nat) H1, Ex H H1 → z[i]? = some c → Ev te ((wipe σ vs).set j (some (.str ⟨#[c]⟩))) H1 (v i)) : EvL (tLc (iStr tl) (gName j) tYes te vs) σ H ((List.range z.length).map v) := fun H0 e Q q => h H0 e _ fun H1 e1 => by
  refine ⟨st z, rfl, fun Dl hD => ?_⟩
  have hsz : (st z).cps.size = z.length := by simp [st]
  have hwk := walk_str (z := st z)
  rw [hsz] at hwk
  refine lc_it hwk (fun i H' => H1 Dl = none ∧ Ex H1 H' ∧ H' Dl = some (.lst ((List.range i).map v))) ⟨hD, Ex.new hD, upd_same⟩ (fun _ _ _ _ => trivial) (fun k x H' H'' hk p y => ?_) fun H' p => q Dl H' (fresh_back e1 p.1) (e1.trans p.2.1) p.2.2
  obtain ⟨rfl, c, hc, rfl⟩ := y
  have hc' : z[k]? = some c := by simpa [st] using hc
  obtain ⟨p1, p2, p3⟩ := p
  refine ⟨hw _, ?_⟩
  refine he k c H1 (e.trans e1) hc' _ p2 _ fun H4 e4 => ⟨_, e4 _ _ p3, ?_, p1, ?_, ?_⟩
  · rw [List.length_map, List.length_range, sizeLine_eq]
    omega
  · exact Ex.mut (p2.trans e4) p1
  · rw [upd_same, List.range_succ, List.map_append]
    rfl
theorem el_catNN {σ : L2.St} {H : Hp} {ta tb : TE} {xs ys : List V} (h1 : EvL ta σ H xs) (h2 : EvL tb σ H ys) (hz : xs.length + ys.length ≤ 16777216) : EvL (tOp rCat ta tb) σ H (xs ++ ys) := fun H1 e1 Q q =>
  h1 H1 e1 _ fun p H2 hp e2 hx => h2 H2 (e1.trans e2) _ fun a H3 ha e3 hy => ⟨p, a, xs, ys, rfl, rfl, e3 _ _ hx, hy, by rw [sizeLine_eq]; exact hz, fun l hl => q l _ (fresh_back (e2.trans e3) hl) ((e2.trans e3).trans (Ex.new hl)) upd_same⟩
theorem fileText_len {f : File} (hF : FileOk f) : (fileText f).length ≤ 2000000 := by
  have h6 := hF.names.few
  have h60 := hF.few
  have h1 : (between [32] (W "officers" :: f.officers)).length ≤ 7 * 13 := by
    have := between_len (s := [32]) (b := 12) (l := W "officers" :: f.officers) (by
      intro x hx
      rcases List.mem_cons.mp hx with rfl | hx
      · decide +kernel
      · have := hF.names.good x hx
        unfold VbpxCore.isName at this
        simp only [Bool.and_eq_true, decide_eq_true_eq] at this
        exact this.2.1)
    refine Nat.le_trans this ?_
    simp only [List.length_cons, List.length_nil]
    exact Nat.mul_le_mul_right _ (by omega)
  have h2 : (between [32] (W "rule" :: Vbpxaf.ruleWords f f.rule)).length ≤ 1000005 := by
    rw [between_cons [32] _ (ruleWords_ne f f.rule)]
    have h3 : (txt f f.rule).length ≤ rsz f.rule := txt_len hF.names hF.rule
    have h4 : (between [32] (Vbpxaf.ruleWords f f.rule)).length ≤ rsz f.rule := h3
    have h5 : (W "rule").length = 4 := by decide +kernel
    have := hF.size
    simp only [List.length_append, List.length_cons, List.length_nil]
    omega
  have h3 : (between [10] (f.events.map (Vbpxaf.eventText f))).length ≤ 60 * 61 := by
    have := between_len (s := [10]) (b := 60) (l := f.events.map (Vbpxaf.eventText f)) (by
      intro x hx
      obtain ⟨e, _, rfl⟩ := List.mem_map.mp hx
      exact eventText_len hF.names e)
    refine Nat.le_trans this ?_
    rw [List.length_map]
    exact Nat.mul_le_mul_right _ h60
  unfold Vbpxaf.fileText
  show (between [10] (between [32] (W "officers" :: f.officers) :: between [32] (W "rule" :: Vbpxaf.ruleWords f f.rule) :: f.events.map (Vbpxaf.eventText f))).length ≤ 2000000
  rw [between_cons [10] _ (by simp)]
  by_cases hn : f.events.map (Vbpxaf.eventText f) = []
  · rw [hn]
    show (_ ++ [10] ++ between [32] (W "rule" :: Vbpxaf.ruleWords f f.rule)).length ≤ _
    simp only [List.length_append, List.length_cons, List.length_nil]
    omega
  · rw [between_cons [10] _ hn]
    simp only [List.length_append, List.length_cons, List.length_nil]
    omega
theorem ok_answer_text (S : Top K mg) : Has P w K mg base (L2.CX P w) "answer_text" 50 P_answer_text (sp_ans K (call0 .text)) := by
  refine has_ofX (g_answer_text S) (fn_answer_text S) sc_answer_text bi_answer_text (fun vs H Q E h => sp_ans_len h) (fun cdv A outer s H vs Q E hr h => ?_)
  obtain ⟨r, el, a, z, f, xs, zs, c, rfl, hc, hL, hx, hz, hRec, hF, gv⟩ := h
  cases hc
  refine ⟨_, (pss_one (ps_ret (pe_op op_cat (pe_lst (pa_cons pe_int pa_nil)) (pe_lc (own := [("sign", 2)]) rfl sc_answer_text.nd (pi_str (pe_h (ok_one_text S) (hr.mono (by omega)) rfl (pa_cons (pv 0) pa_nil))) (blkOk_by (own := [("sign", 2)]) (N := N_answer_text) (sc := defScope s_answer_text) (by decide +kernel)) (fun _ _ _ _ _ => (pg_name (i := 2) sc_answer_text.nd rfl (Or.inl rfl))) (fun _ _ _ _ _ => pts_nil) (fun _ _ _ _ _ => (pe_callB call_ord (by rfl) (n_ord S) boot_ord' (pa_cons (pv 2) pa_nil))))))), ?_⟩
  have hl := fileText_len hF
  refine s_retL (el_is (el_catNN (el_lst (ea_cons ev_c ea_nil) (by simp)) (el_signs (fun i => V.int ((fileText f).getD i 0 : Nat)) (ev_h (ea_cons (ev_var rfl) ea_nil) fun H1 e1 Q E q => ⟨r, el, f, rfl, (hRec.ex rm_ex).ex e1, hF, q⟩) (by omega) (fun _ => rfl) (fun i c H1 e1 hc => ?_)) (by simp; omega)) ?_) (gv.same (ans := 0 :: VbpxCore.ints (fileText f)) rfl hF hRec)
  · rw [getD_of hc]
    exact ev_ord (ev_var rfl)
  · show V.int 0 :: (List.range (fileText f).length).map (fun i => V.int ((fileText f).getD i 0 : Nat)) = V.int 0 :: intsV (VbpxCore.ints (fileText f))
    rw [← nats_ints]
    congr 1
    refine List.ext_getElem? fun i => ?_
    unfold nats
    rw [List.getElem?_map, List.getElem?_map]
    rcases Nat.lt_or_ge i (fileText f).length with h | h
    · rw [List.getElem?_eq_getElem (by simpa using h), List.getElem?_eq_getElem h]
      simp [List.getD, h]
    · rw [List.getElem?_eq_none (by simpa using h), List.getElem?_eq_none h]
      rfl
end
end CK
/-! events.py, reading.py, calls.py: what the calls of the second half lean on -/
namespace CK
open PySem PySem.Spec PyProof.Rows L2 Evl
open Vbpxaf (bit count opens File nameOf Now mayBe done acting may W now put readFile run ruleIn)
open VbpxCore (isBetween cut)
section
variable {P : Program} {w : World} {K : PySem.W.Frag} {mg : Str → Option Value} {base : Heap}
theorem isK_open (e : Vbpxaf.Event) : isK (W "open") e = (some e == some Vbpxaf.Event.open_) := by
  obtain ⟨c1, c2, c3, c4, c5, c6, c7, c8, c9, c10⟩ := kinds_ne
  unfold isK
  cases e with
  | open_ => exact decide_eq_true rfl
  | come n => exact (decide_eq_false c4).trans rfl
  | go n => exact (decide_eq_false c7).trans rfl
  | die n => exact (decide_eq_false c9).trans rfl
  | stand n m => exact (decide_eq_false c10).trans rfl
def sp_unlockings (K : PySem.W.Frag) : Sp := fun vs H Q _ => ∃ (a : Addr) (es : List Vbpxaf.Event), vs = [.ref a] ∧ EventsAt K H a es ∧ es.length ≤ 60 ∧ RetL (nats (opensAt es)) H Q
theorem ok_unlockings (S : Top K mg) : Has P w K mg base CX0 "unlockings" 1 P_unlockings (sp_unlockings K) := by
  refine has_of (g_unlockings S) (fn_unlockings S) sc_unlockings bi_unlockings (fun vs H Q E h => ?_) (fun cdv A outer s H vs Q E hr h => ?_)
  · obtain ⟨a, es, rfl, _⟩ := h
    rfl
  · obtain ⟨a, es, rfl, ⟨ps, hl, hps⟩, hz, k⟩ := h
    refine ⟨_, (pss_one (ps_ret (pe_lc (own := [("number", 1), ("event", 2)]) rfl sc_unlockings.nd (piE K (by rfl) (n_enumerate S) (pa_cons (pv 0) pa_nil)) (blkOk_by (own := [("number", 1), ("event", 2)]) (N := N_unlockings) (sc := defScope s_unlockings) (by decide +kernel)) (fun _ _ _ _ _ => (pgT K 2 (pgs_cons (pg_name (i := 1) sc_unlockings.nd rfl (Or.inl rfl)) (pgs_cons (pg_name (i := 2) sc_unlockings.nd rfl (Or.inl rfl)) pgs_nil)))) (fun _ _ _ _ _ => (pts_one (pt_cmpR op_eq (pe_f K (pv 2)) (pe_gs (g_UNLOCK S) rfl) (nomark _)))) (fun _ _ _ _ _ => (pv 1))))), ?_⟩
    have hlen := paired_len hps
    refine s_retL (el_is (el_lcE (fun i => es[i]? == some .open_) (fun (i : Nat) => V.int (i : Int)) (ea_cons (ev_var rfl) ea_nil) (sq_of hl) (by rw [List.length_map]; omega) (fun _ _ => rfl) (fun i x H1 e1 hi => ?_) (fun i x H1 e1 hi _ => ev_var rfl)) ?_) k
    · obtain ⟨p, e, rfl, he, hpe⟩ := event_at_get hps hi
      rw [he, ← isK_open]
      exact et_kind S (hpe.ex e1) (ev_var rfl) lit_open
    · rw [given_nats, List.length_map, hlen]
      rfl
def sp_state (K : PySem.W.Frag) : Sp := fun vs H Q _ => ∃ (r el a : Addr) (f : File) (es : List Vbpxaf.Event), vs = [.ref r, .ref a] ∧ RecordAt K H r el f ∧ EventsAt K H a es ∧ count f ≤ 6 ∧ Valid f es ∧ es.length ≤ 60 ∧ RetL (intsV (Vbpxaf.nowRow f (es.foldl done Vbpxaf.begin_))) H Q
theorem ok_state_behind (S : Top K mg) : Has P w K mg base CX0 "state_behind" 5 P_state_behind (sp_state K) := by
  refine has_of (g_state_behind S) (fn_state_behind S) sc_state_behind bi_state_behind (fun vs H Q E h => ?_) (fun cdv A outer s H vs Q E hr h => ?_)
  · obtain ⟨r, el, a, f, es, rfl, _⟩ := h
    rfl
  · obtain ⟨r, el, a, f, es, rfl, hR, hE, hk, hv, hz, k⟩ := h
    refine ⟨_, (pss_cons (ps_set (i := 2) sc_state_behind.nd rfl (Or.inl rfl) (pe_h (ok_hall_behind S) (hr.mono (by omega)) rfl (pa_cons (pv 1) pa_nil)))
      (pss_cons (ps_set (i := 3) sc_state_behind.nd rfl (Or.inl rfl) (pe_h (ok_those_who_act S) (hr.mono (by omega)) rfl (pa_cons (pv 2) pa_nil)))
      (pss_cons (ps_set (i := 4) sc_state_behind.nd rfl (Or.inl rfl) (pe_h (ok_yes_or_no S) (hr.mono (by omega)) rfl (pa_cons (pe_ix (ixL K) (pe_f K (pe_f K (pv 0))) (pv 3) (fun _ _ => rfl)) pa_nil)))
      (pss_one (ps_ret (pe_lst (pa_cons (pe_f K (pv 2)) (pa_cons (pe_f K (pv 2)) (pa_cons (pv 3) (pa_cons (pv 4) (pa_cons (pe_callB (cLen K) (by rfl) (n_len S) PySem.boot_len (pa_cons (pe_h (ok_unlockings S) (hr.mono (by omega)) rfl (pa_cons (pv 1) pa_nil)) pa_nil)) pa_nil))))))))))), ?_⟩
    refine q_set ⟨_, rfl, a, f, es, rfl, hE, hk, hv, hz, fun h l H1 hh hl e1 hA => ?_⟩
    obtain ⟨ok, _⟩ := valid_now hk hv es.length (Nat.le_refl _)
    rw [List.take_length] at ok
    have ho := opened_len es
    generalize es.foldl done Vbpxaf.begin_ = n at hA ok ho k
    refine q_asg (v := .int (acting f n : Nat)) (ev_h (ea_cons (ev_var rfl) ea_nil) fun H2 e2 Q E q => ⟨h, l, n, f, rfl, hA.ex e2, ok, q⟩) fun H2 e2 => ?_
    have e12 := e1.trans e2
    obtain ⟨tb, hT, hTe⟩ := ev_allowed S (hR.ex e12) (te := tVar 0) (σ := [some (.ref r), some (.ref a), some (.ref h), some (.int (acting f n : Nat)), none]) (ev_var rfl)
    refine q_asg (v := .int (if may f (acting f n) = true then 1 else 0)) (ev_yes (ev_may hT (acting_lt ok) hTe (ev_var rfl))) fun H3 e3 => ?_
    have e13 := e12.trans e3
    obtain ⟨dx, hobj⟩ := (hA.ex (e2.trans e3)).1
    refine s_retL (el_lst (vs := intsV (Vbpxaf.nowRow f n)) (ea_cons (ev_fld (ev_var rfl) hobj (cl_Hall S) (na_Hall_there S) (hall_there _ _ _)) (ea_cons (ev_fld (ev_var rfl) hobj (cl_Hall S) (na_Hall_dead S) (hall_dead _ _ _)) (ea_cons (ev_var rfl) (ea_cons (ev_is (ev_var rfl) ?_) (ea_cons (ev_is (ev_lenN (el_h (ea_cons (ev_var rfl) ea_nil) fun H4 e4 Q E q => ⟨a, es, rfl, hE.ex (e13.trans e4), hz, q⟩)) ?_) ea_nil))))) (by simp [intsV, Vbpxaf.nowRow, VbpxCore.ints])) fun q H4 hq e4 h4 => k q H4 (fresh_back e13 hq) (e13.trans e4) h4
    · show V.int _ = V.int ((if may f (acting f n) = true then 1 else 0 : Nat) : Int)
      split <;> rfl
    · rw [nats_len, ← ho]
/-! ### a rule alone -/
def sp_read_one_rule (K : PySem.W.Frag) : Sp := fun vs H Q E => ∃ (a nl : Addr) (t : List Nat) (f : File), vs = [.ref a, .ref nl] ∧ SqL K H a (bts t) ∧ t.length ≤ 2000 ∧ NamesAt K H nl f ∧
  (∀ n : Nat, Vbpxaf.readRule f t = .error n → Raised K "Fault" (faultF (n : Int)) H E) ∧
  (∀ rl, Vbpxaf.readRule f t = .ok rl → RuleOk f rl → rsz rl ≤ 1000000 → ∀ p H2, H p = none → Ex H H2 → RuleAt K H2 p f rl → Q (.ref p) H2)
theorem ok_read_one_rule (S : Top K mg) : Has P w K mg base (L2.CX P w) "read_one_rule" 45 P_read_one_rule (sp_read_one_rule K) := by
  refine has_ofX (g_read_one_rule S) (fn_read_one_rule S) sc_read_one_rule bi_read_one_rule (fun vs H Q E h => ?_) (fun cdv A outer s H vs Q E hr h => ?_)
  · obtain ⟨a, nl, t, f, rfl, _⟩ := h
    rfl
  · obtain ⟨a, nl, t, f, rfl, hL, ht, hN, k1, k2⟩ := h
    refine ⟨_, (pss_cons (ps_set (i := 2) sc_read_one_rule.nd rfl (Or.inl rfl) (pe_mkK K (ok_Reader S) (hr.mono (by omega)) rfl (pa_cons (pv 0) pa_nil)))
      (pss_cons (ps_set (i := 3) sc_read_one_rule.nd rfl (Or.inl rfl) (pe_hS (ok_read_rule S) (hr.mono (by omega)) rfl (takes_of rfl rfl rfl rfl) (pa_cons (pv 2) (pa_cons (pv 1) (pa_cons pe_int pa_nil)))))
      (pss_cons (ps_expr (pe_mS0 K (pv 2) (ok_Reader_finish S) (hr.mono (by omega)) (takes_of rfl rfl rfl rfl)))
      (pss_one (ps_ret (pv 3)))))), ?_⟩
    refine q_set (er_reader (ev_var rfl) hL ht fun r H1 hr0 e1 hR => ?_)
    have hR1 : ReaderAt K H1 r (wsOf t) 0 := hR
    have hcl := cut_len t 0
    have hX : Vbpxaf.readRule f t = (ruleIn f t.length (5 * (cut 0 t).length + 5) 8 ((cut 0 t).drop 0) >>= fun z => match z.2 with
      | [] => pure z.1
      | w :: _ => .error w.1) := rfl
    refine q_set ⟨_, rfl, _, rfl, r, nl, t, 0, 5 * (cut 0 t).length + 5, f, 0, rfl, by omega, hR1, ht, Nat.zero_le _, hN.ex e1, by omega, fun n hn => RaisedB.of (k1 n (by rw [hX, hn]; rfl)) e1 hr0, fun rl rest ho p H2 j hp eb2 hR2 hij hj hrest hA hO hz => ?_⟩
    have e12 : Ex H H2 := ((Ex.b e1 : ExB r H H1).trans eb2).new hr0
    obtain ⟨wd, hw, hpl, hdr⟩ := ws_at hj
    have hlen : (wsOf t).length = (cut 0 t).length + 1 := by simp [wsOf]
    obtain ⟨dr, wl, hrr, _⟩ := id hR2
    refine ⟨_, rfl, r, dr, _, rfl, hrr, reader_no _ _ (by decide +kernel) (by decide +kernel), r, wsOf t, j, wd, rfl, hR2, hw, fun hend H5 eb5 hR5 => ?_, fun hend => RaisedB.of (k1 _ ?_) e12 hr0⟩
    · have hjr : rest = [] := by
        rw [hrest, List.drop_eq_nil_iff]
        omega
      have e15 : Ex H H5 := ((Ex.b e12 : ExB r H H2).trans eb5).new hr0
      refine s_ret (ev_var rfl) fun H6 e6 => k2 rl (by rw [hX, ho, bindOk, hjr]; rfl) hO (by omega) p H6 (fresh_back e1 hp) (e15.trans e6) (RuleObj.ex (hR2.rule hA eb5) e6)
    · rcases hdr with ⟨hd, hjlt⟩ | ⟨_, _, hje⟩
      · rw [hX, ho, bindOk, hrest, hd]
      · exact absurd (by omega) hend
end
end CK
/-! calls.py: the calls 14 to 26 -/
namespace CK
open PySem PySem.Spec PyProof.Rows L2 Evl
open Vbpxaf (bit count opens File nameOf Now mayBe done acting may W now put readFile run ruleIn sized fact weigh)
open VbpxCore (isBetween cut)
section
variable {P : Program} {w : World} {K : PySem.W.Frag} {mg : Str → Option Value} {base : Heap}
/-- l.extend(a new list) -/
theorem s_extL {σ : L2.St} {H : Hp} {D : Ends} {ta te : TE} {l : Addr} {xs ys : List V} (hl : H l = some (.lst xs)) (ha : Ev ta σ H (.ref l)) (he : EvL te σ H ys) (hz : xs.length + ys.length ≤ 16777216)
    (k : ∀ H1, Ex H H1 → D.nx σ (upd H1 l (.lst (xs ++ ys)))) : tDrop (tBM K "list" rExtend ta (tCons te tNil)) D σ H :=
  ha H (Ex.refl H) _ fun H1 e1 => ⟨.inl ⟨rfl, xs, sq_of (e1 l _ hl)⟩, he H1 e1 _ fun b H2 hb e2 h2 => ⟨l, b, xs, ys, rfl, rfl, (e1.trans e2) _ _ hl, h2, by rw [sizeLine_eq]; exact hz, k H2 (e1.trans e2)⟩⟩
/-! ### power -/
def powerRow (f : File) (n : Nat) : List Int := [(Vbpxaf.power f n).num, ((Vbpxaf.power f n).den : Int)]
theorem powerRow_eq {f : File} (h : count f ≤ 6) (n : Nat) : intsV (powerRow f n) = nats (powerL (count f) (may f) n) := by
  obtain ⟨h1, h2⟩ := power_is h n
  unfold powerRow
  rw [h1, h2]
  rfl
theorem flat2 (g : Nat → List Int) (hg : ∀ n, (g n).length = 2) : ∀ i, ((List.range i).flatMap g).length = 2 * i
  | 0 => rfl
  | i + 1 => by
    rw [List.range_succ, List.flatMap_append, List.length_append, flat2 g hg i]
    simp [hg]
    omega
theorem ok_answer_power (S : Top K mg) : Has P w K mg base (L2.CX P w) "answer_power" 50 P_answer_power (sp_ans K (call0 .power)) := by
  refine has_ofX (g_answer_power S) (fn_answer_power S) sc_answer_power bi_answer_power (fun vs H Q E h => sp_ans_len h) (fun cdv A outer s H vs Q E hr h => ?_)
  obtain ⟨r, el, a, z, f, xs, zs, c, rfl, hc, hL, hx, hz, hRec, hF, gv⟩ := h
  cases hc
  refine ⟨_, (pss_cons (ps_set (i := 2) sc_answer_power.nd rfl (Or.inl rfl) (pe_callB (cLen K) (by rfl) (n_len S) PySem.boot_len (pa_cons (pe_f K (pv 0)) pa_nil)))
      (pss_cons (ps_set (i := 3) sc_answer_power.nd rfl (Or.inl rfl) (pe_lst (pa_cons (pv 2) pa_nil)))
      (pss_cons (ps_for (passes_of rfl) rfl (pi_range1 (by rfl) (n_range S) (pa_cons (pv 2) pa_nil)) (pg_name (i := 4) sc_answer_power.nd rfl (Or.inl rfl))
      (pss_one (ps_expr (pe_bmK K PySem.F.plainAttrs_list PySem.F.slot_list_extend PySem.F.type_list_extend mt_extend (pv 3) (pa_cons (pe_h (ok_officer_power S) (hr.mono (by omega)) rfl (pa_cons (pe_f K (pe_f K (pv 0))) (pa_cons (pv 2) (pa_cons (pv 4) pa_nil)))) pa_nil)))))
      (pss_one (ps_ret (pv 3)))))), ?_⟩
  have h6 : count f ≤ 6 := hF.names.few
  have hR := hRec.ex rm_ex
  refine q_asg (v := .int (count f : Int)) (ev_officers S hR (ev_var rfl)) fun H1 e1 => ?_
  refine q_asgL (el_lst (ea_cons (ev_var rfl) ea_nil) (by simp)) fun an H2 han e2 h2 => ?_
  have e12 := e1.trans e2
  have hanH : H an = none := fresh_back e1 han
  refine q_forR1 (n := (count f : Int)) (ea_cons (ev_var rfl) ea_nil) ⟨by omega, by omega⟩
    (fun i σ' H' => ∃ v, σ' = [some (.ref r), some (.ref a), some (.int (count f : Int)), some (.ref an), v] ∧ Ex H H' ∧ H' an = some (.lst (intsV ((count f : Int) :: (List.range i).flatMap (powerRow f)))))
    (fun H3 e3 => ⟨none, rfl, e12.trans e3, e3 _ _ h2⟩) ?_ ?_
  · rintro i σ' H' hi ⟨v, rfl, e3, han3⟩
    obtain ⟨tb, hT, hE⟩ := ev_allowed S (hR.ex e3) (te := tVar 0) (σ := [some (.ref r), some (.ref a), some (.int (count f : Int)), some (.ref an), some (.int (i : Int))]) (ev_var rfl)
    refine s_extL han3 (ev_var rfl) (el_h (ea_cons hE (ea_cons (ev_var rfl) (ea_cons (ev_var rfl) ea_nil))) fun H4 e4 Q E q => ⟨tb, count f, i, may f, rfl, hT.ex e4, by omega, q⟩) ?_ fun H4 e4 => ⟨_, rfl, Ex.mut (e3.trans e4) hanH, ?_⟩
    · rw [intsV_len, List.length_cons, flat2 _ (fun _ => rfl), nats_len]
      show 2 * i + 1 + 2 ≤ _
      omega
    · rw [upd_same, ← powerRow_eq h6, List.range_succ, List.flatMap_append]
      unfold intsV
      rw [← List.map_append]
      simp
  · rintro σ' H' ⟨v, rfl, e3, han3⟩
    rw [Int.toNat_natCast] at han3
    refine s_ret (ev_var rfl) fun H4 e4 => gv.same (ans := (count f : Int) :: (List.range (count f)).flatMap (powerRow f)) rfl hF hRec an H4 hanH (e3.trans e4) (e4 _ _ han3)
/-! ### idle, alike, hinder, without -/
theorem ok_answer_idle (S : Top K mg) : Has P w K mg base (L2.CX P w) "answer_idle" 50 P_answer_idle (sp_ans K (call0 .idle)) := by
  refine has_ofX (g_answer_idle S) (fn_answer_idle S) sc_answer_idle bi_answer_idle (fun vs H Q E h => sp_ans_len h) (fun cdv A outer s H vs Q E hr h => ?_)
  obtain ⟨r, el, a, z, f, xs, zs, c, rfl, hc, hL, hx, hz, hRec, hF, gv⟩ := h
  cases hc
  refine ⟨_, (pss_one (ps_ret (pe_h (ok_counted S) (hr.mono (by omega)) rfl (pa_cons (pe_h (ok_idle_officers S) (hr.mono (by omega)) rfl (pa_cons (pe_f K (pe_f K (pv 0))) (pa_cons (pe_callB (cLen K) (by rfl) (n_len S) PySem.boot_len (pa_cons (pe_f K (pv 0)) pa_nil)) pa_nil))) pa_nil)))), ?_⟩
  have h6 : count f ≤ 6 := hF.names.few
  have hR := hRec.ex rm_ex
  obtain ⟨tb, hT, hE⟩ := ev_allowed S hR (te := tVar 0) (σ := [some (.ref r), some (.ref a)]) (ev_var rfl)
  have hl : (idleL (count f) (may f)).length ≤ 6 := by
    have h := List.length_filter_le (fun i => ((List.range (2 ^ count f)).filter (swingsB (may f) i)).isEmpty) (List.range (count f))
    rw [List.length_range] at h
    exact Nat.le_trans h h6
  exact s_retL (el_counted (l := idleL (count f) (may f)) (el_h (ea_cons hE (ea_cons (ev_officers S hR (ev_var rfl)) ea_nil)) fun H1 e1 Q E q => ⟨tb, count f, may f, rfl, hT.ex e1, q⟩) (by omega)) (gv.same rfl hF hRec)
theorem bindOkE {α β : Type} {a : α} {k : α → Except Int β} : ((Except.ok a : Except Int α) >>= k) = k a := rfl
theorem at_second {n m : Int} {l : List Int} : atI (intsV (n :: m :: l)) 1 = some (V.int m) := atI_nat (j := 1) rfl
theorem run_alike {f : File} {n m : Int} : run f (.alike n m) = (oneOf 5 (count f) n >>= fun a => oneOf 5 (count f) m >>= fun b => .ok (f, [if Vbpxaf.alike f a b = true then 1 else 0])) := by
  show (Vbpxaf.officer f n >>= fun a => Vbpxaf.officer f m >>= _) = _
  rw [officer_one, officer_one]
  rfl
theorem alike_eq {f : File} {a b : Nat} (h6 : count f ≤ 6) (ha : a < count f) (hb : b < count f) : Vbpxaf.alike f a b = alikeB (count f) (may f) a b := by
  unfold Vbpxaf.alike alikeB Vbpxaf.companies
  rw [Bool.eq_iff_iff, List.all_eq_true, List.all_eq_true]
  refine forall_congr' fun c => forall_congr' fun hc => ?_
  have hc' := List.mem_range.mp hc
  have := pow64 h6
  rw [ex_eq' (c := c) (by omega) (by omega) (by omega)]
theorem ok_answer_alike (S : Top K mg) : Has P w K mg base (L2.CX P w) "answer_alike" 50 P_answer_alike (sp_ans K (call2 .alike)) := by
  refine has_ofX (g_answer_alike S) (fn_answer_alike S) sc_answer_alike bi_answer_alike (fun vs H Q E h => sp_ans_len h) (fun cdv A outer s H vs Q E hr h => ?_)
  obtain ⟨r, el, a, z, f, xs, zs, c, rfl, ⟨n, m, rfl, rfl⟩, hL, hx, hz, hRec, hF, gv⟩ := h
  refine ⟨_, (pss_cons (ps_expr (pe_hS (ok_check_officer S) (hr.mono (by omega)) rfl (takes_of rfl rfl rfl rfl) (pa_cons (pe_ix (ixL K) (pv 1) pe_int (fun _ _ => rfl)) (pa_cons (pv 0) pa_nil))))
      (pss_cons (ps_expr (pe_hS (ok_check_officer S) (hr.mono (by omega)) rfl (takes_of rfl rfl rfl rfl) (pa_cons (pe_ix (ixL K) (pv 1) pe_int (fun _ _ => rfl)) (pa_cons (pv 0) pa_nil))))
      (pss_one (ps_ret (pe_lst (pa_cons (pe_h (ok_yes_or_no S) (hr.mono (by omega)) rfl (pa_cons (pe_h (ok_are_alike S) (hr.mono (by omega)) rfl (pa_cons (pe_f K (pe_f K (pv 0))) (pa_cons (pe_ix (ixL K) (pv 1) pe_int (fun _ _ => rfl)) (pa_cons (pe_ix (ixL K) (pv 1) pe_int (fun _ _ => rfl)) pa_nil)))) pa_nil)) pa_nil)))))), ?_⟩
  have h6 : count f ≤ 6 := hF.names.few
  have hX := run_alike (f := f) (n := n) (m := m)
  have hR := hRec.ex rm_ex
  refine q_one (ev_op (ev_var rfl) ev_c (rv_ixL (sq_of hL) at_first)) (ev_var rfl) hR (fun i hi H1 e1 => ?_) fun e he => gv.err e (by rw [hX, he]; rfl)
  rw [hi] at hX
  refine q_one (ev_op (ev_var rfl) ev_c (rv_ixL (sq_of (e1 _ _ hL)) at_second)) (ev_var rfl) (hR.ex e1) (fun j hj H2 e2 => ?_) fun e he => RaisedN.mono (gv.err e (by rw [hX, bindOkE, he]; rfl)) e1
  rw [bindOkE, hj] at hX
  obtain ⟨rfl, hi2, _⟩ := oneOf_ok hi
  obtain ⟨rfl, hj2, _⟩ := oneOf_ok hj
  have e12 := e1.trans e2
  have hL2 := e12 _ _ hL
  obtain ⟨tb, hT, hE⟩ := ev_allowed S (hR.ex e12) (te := tVar 0) (σ := [some (.ref r), some (.ref a)]) (ev_var rfl)
  have hX' : run f (.alike (i : Int) (j : Int)) = .ok (f, [if alikeB (count f) (may f) i j = true then 1 else 0]) := by
    rw [hX, ← alike_eq h6 hi2 hj2]
    rfl
  exact s_retL (el_lst (vs := intsV [if alikeB (count f) (may f) i j = true then 1 else 0]) (ea_cons (ev_yes (ev_h (ea_cons hE (ea_cons (ev_op (ev_var rfl) ev_c (rv_ixL (sq_of hL2) at_first)) (ea_cons (ev_op (ev_var rfl) ev_c (rv_ixL (sq_of hL2) at_second)) ea_nil))) fun H3 e3 Q E q => ⟨tb, count f, i, j, may f, rfl, hT.ex e3, hi2, hj2, q⟩)) ea_nil) (by simp [intsV])) fun q H3 hq e3 h3 => gv.same hX' hF hRec q H3 (fresh_back e12 hq) (e12.trans e3) h3
theorem ok_answer_hinder (S : Top K mg) : Has P w K mg base (L2.CX P w) "answer_hinder" 50 P_answer_hinder (sp_ans K (call0 .hinder)) := by
  refine has_ofX (g_answer_hinder S) (fn_answer_hinder S) sc_answer_hinder bi_answer_hinder (fun vs H Q E h => sp_ans_len h) (fun cdv A outer s H vs Q E hr h => ?_)
  obtain ⟨r, el, a, z, f, xs, zs, c, rfl, hc, hL, hx, hz, hRec, hF, gv⟩ := h
  cases hc
  refine ⟨_, (pss_one (ps_ret (pe_h (ok_counted S) (hr.mono (by omega)) rfl (pa_cons (pe_h (ok_least_hindering S) (hr.mono (by omega)) rfl (pa_cons (pe_f K (pe_f K (pv 0))) (pa_cons (pe_callB (cLen K) (by rfl) (n_len S) PySem.boot_len (pa_cons (pe_f K (pv 0)) pa_nil)) pa_nil))) pa_nil)))), ?_⟩
  have h6 : count f ≤ 6 := hF.names.few
  have h64 := pow64 h6
  have hR := hRec.ex rm_ex
  obtain ⟨tb, hT, hE⟩ := ev_allowed S hR (te := tVar 0) (σ := [some (.ref r), some (.ref a)]) (ev_var rfl)
  have hl := leastL_len (count f) (hindF (count f) (may f))
  exact s_retL (el_counted (l := leastL (count f) (hindF (count f) (may f))) (el_h (ea_cons hE (ea_cons (ev_officers S hR (ev_var rfl)) ea_nil)) fun H1 e1 Q E q => ⟨tb, count f, may f, rfl, hT.ex e1, q⟩) (by omega)) (gv.same rfl hF hRec)
theorem run_without {f : File} {n : Int} : run f (.without n) = (oneOf 63 (2 ^ count f) n >>= fun x => .ok (f, Vbpxaf.listRow (Vbpxaf.leastWithout f x))) := by
  show (Vbpxaf.company f n >>= _) = _
  rw [company_one]
  rfl
theorem least_lt {f : File} {c : Nat} (h : c ∈ Vbpxaf.least f) : c < 2 ^ count f := List.mem_range.mp (List.mem_filter.mp h).1
theorem forb_lt {f : File} {c : Nat} (h : c ∈ Vbpxaf.forbidden f) : c < 2 ^ count f := List.mem_range.mp (List.mem_filter.mp h).1
theorem ok_answer_without (S : Top K mg) : Has P w K mg base (L2.CX P w) "answer_without" 50 P_answer_without (sp_ans K (call1 .without)) := by
  refine has_ofX (g_answer_without S) (fn_answer_without S) sc_answer_without bi_answer_without (fun vs H Q E h => sp_ans_len h) (fun cdv A outer s H vs Q E hr h => ?_)
  obtain ⟨r, el, a, z, f, xs, zs, c, rfl, ⟨n, rfl, rfl⟩, hL, hx, hz, hRec, hF, gv⟩ := h
  refine ⟨_, (pss_cons (ps_set (i := 2) sc_answer_without.nd rfl (Or.inr rfl) (pe_ix (ixL K) (pv 1) pe_int (fun _ _ => rfl)))
      (pss_cons (ps_expr (pe_hS (ok_check_company S) (hr.mono (by omega)) rfl (takes_of rfl rfl rfl rfl) (pa_cons (pv 2) (pa_cons (pv 0) pa_nil))))
      (pss_one (ps_ret (pe_h (ok_counted S) (hr.mono (by omega)) rfl (pa_cons (pe_lc (own := [("company", 3)]) rfl sc_answer_without.nd (piL K (pe_h (ok_record_least S) (hr.mono (by omega)) rfl (pa_cons (pv 0) pa_nil))) (blkOk_by (own := [("company", 3)]) (N := N_answer_without) (sc := defScope s_answer_without) (by decide +kernel)) (fun _ _ _ _ _ => (pg_name (i := 3) sc_answer_without.nd rfl (Or.inl rfl))) (fun _ _ _ _ _ => (pts_one (pt_cmpR op_eq (pe_op op_and (pv 3) (pv 2)) pe_int (nomark _)))) (fun _ _ _ _ _ => (pv 3))) pa_nil)))))), ?_⟩
  have h6 : count f ≤ 6 := hF.names.few
  have h64 := pow64 h6
  have hX := run_without (f := f) (n := n)
  refine q_asg (v := .int n) (ev_op (ev_var rfl) ev_c (rv_ixL (sq_of hL) at_first)) fun H1 e1 => ?_
  refine q_one (ev_var rfl) (ev_var rfl) ((hRec.ex (rm_mono e1)).ex rm_ex) (fun x hc H3 e3 => ?_) fun e he => RaisedN.mono (gv.err e (by rw [hX, he]; rfl)) e1
  rw [hc] at hX
  obtain ⟨rfl, hlt, _⟩ := oneOf_ok hc
  have e13 := e1.trans e3
  have hR3 := (hRec.ex (rm_mono e13)).ex rm_ex
  have hll := least_len h6
  have hwl : (Vbpxaf.leastWithout f x).length ≤ 64 := Nat.le_trans (List.length_filter_le _ _) hll
  refine s_retL (el_counted (l := Vbpxaf.leastWithout f x) (el_is (el_lcNL (fun i => (Vbpxaf.members (count f) ((Vbpxaf.least f).getD i 0)).all fun n => !bit x n) (fun i => V.int ((Vbpxaf.least f).getD i 0 : Nat)) (el_recL hR3 (ev_var rfl)) (by rw [nats_len]; omega) (fun _ => rfl) (fun i v H4 e4 hi => ?_) (fun i v H4 e4 hi _ => ?_)) ?_) (by omega)) fun q H4 hq e4 h4 => gv.same hX hF hRec q H4 (fresh_back e13 hq) (e13.trans e4) h4
  · obtain ⟨c, hc', rfl⟩ := nats_at hi
    have hcl := least_lt (List.mem_of_getElem? hc')
    rw [getD_of hc', ← apart_eq h6 hcl hlt]
    have ea := and_nat ⟨c, by omega⟩ ⟨x, by omega⟩
    dsimp only at ea
    refine et_is (et_test (ev_op (ev_op (ev_var rfl) (ev_var rfl) rv_I0) ev_c (rv_eq rfl))) ?_
    rw [ea]
    exact decide_eq_decide.mpr ⟨fun z => by injection z with z; omega, fun z => by rw [z]; rfl⟩
  · obtain ⟨c, hc', rfl⟩ := nats_at hi
    rw [getD_of hc']
    exact ev_var rfl
  · rw [nats_len, given_filter 0 (fun c => (Vbpxaf.members (count f) c).all fun n => !bit x n) (fun c => V.int (c : Nat))]
    rfl
/-! ### weights -/
theorem comps_least {f : File} (h6 : count f ≤ 6) : Comps (Vbpxaf.least f) := ⟨least_len h6, fun c hc => Nat.lt_of_lt_of_le (least_lt hc) (pow64 h6)⟩
theorem comps_forb {f : File} (h6 : count f ≤ 6) : Comps (Vbpxaf.forbidden f) := ⟨forb_len h6, fun c hc => Nat.lt_of_lt_of_le (forb_lt hc) (pow64 h6)⟩
theorem quota_eq {f : File} {ws : List Nat} (h6 : count f ≤ 6) (hl : ws.length = count f) : Vbpxaf.quota f ws = quotaL ws (Vbpxaf.least f) := by
  unfold Vbpxaf.quota quotaL Vbpxaf.all
  rw [weigh_all h6 hl]
  cases Vbpxaf.least f <;> rfl
theorem run_weights {f : File} {n : Int} : run f (.weights n) = (if isBetween n 0 5 = true then (match (Vbpxaf.rows (count f) n.toNat).find? (partsL (Vbpxaf.least f) (Vbpxaf.forbidden f)) with
    | none => .ok (f, [0])
    | some w => .ok (f, 1 :: (Vbpxaf.quota f w : Int) :: Vbpxaf.listRow w)) else .error (-3)) := by
  show (Vbpxaf.ranged n 0 5 >>= _) = _
  unfold Vbpxaf.ranged
  by_cases h : isBetween n 0 5 = true
  · rw [if_pos h, if_pos h]
    show (match Vbpxaf.weights f n.toNat with
      | none => _
      | some w => _) = _
    have e : Vbpxaf.weights f n.toNat = (Vbpxaf.rows (count f) n.toNat).find? (partsL (Vbpxaf.least f) (Vbpxaf.forbidden f)) := rfl
    rw [e]
    cases (Vbpxaf.rows (count f) n.toNat).find? (partsL (Vbpxaf.least f) (Vbpxaf.forbidden f)) <;> rfl
  · rw [if_neg h, if_neg h]
    rfl
theorem ok_answer_weights (S : Top K mg) : Has P w K mg base (L2.CX P w) "answer_weights" 50 P_answer_weights (sp_ans K (call1 .weights)) := by
  refine has_ofX (g_answer_weights S) (fn_answer_weights S) sc_answer_weights bi_answer_weights (fun vs H Q E h => sp_ans_len h) (fun cdv A outer s H vs Q E hr h => ?_)
  obtain ⟨r, el, a, z, f, xs, zs, c, rfl, ⟨n, rfl, rfl⟩, hL, hx, hz, hRec, hF, gv⟩ := h
  refine ⟨_, (pss_cons (ps_set (i := 2) sc_answer_weights.nd rfl (Or.inl rfl) (pe_ix (ixL K) (pv 1) pe_int (fun _ _ => rfl)))
      (pss_cons (ps_expr (pe_hS (ok_check_sought S) (hr.mono (by omega)) rfl (takes_of rfl rfl rfl rfl) (pa_cons (pv 2) pa_nil)))
      (pss_cons (ps_set (i := 3) sc_answer_weights.nd rfl (Or.inl rfl) (pe_h (ok_record_least S) (hr.mono (by omega)) rfl (pa_cons (pv 0) pa_nil)))
      (pss_cons (ps_set (i := 4) sc_answer_weights.nd rfl (Or.inl rfl) (pe_h (ok_first_weights S) (hr.mono (by omega)) rfl (pa_cons (pv 3) (pa_cons (pe_h (ok_record_forbidden S) (hr.mono (by omega)) rfl (pa_cons (pv 0) pa_nil)) (pa_cons (pe_callB (cLen K) (by rfl) (n_len S) PySem.boot_len (pa_cons (pe_f K (pv 0)) pa_nil)) (pa_cons (pv 2) pa_nil))))))
      (pss_cons (ps_if (pt_cmpR op_isN (pv 4) pe_non (nomark _))
      (pss_one (ps_ret (pe_lst (pa_cons pe_int pa_nil)))) pss_nil)
      (pss_one (ps_ret (pe_op op_cat (pe_lst (pa_cons pe_int (pa_cons (pe_h (ok_quota_of S) (hr.mono (by omega)) rfl (pa_cons (pv 4) (pa_cons (pv 3) pa_nil))) pa_nil))) (pe_h (ok_counted S) (hr.mono (by omega)) rfl (pa_cons (pv 4) pa_nil)))))))))), ?_⟩
  have h6 : count f ≤ 6 := hF.names.few
  have hX := run_weights (f := f) (n := n)
  refine q_asg (v := .int n) (ev_op (ev_var rfl) ev_c (rv_ixL (sq_of hL) at_first)) fun H1 e1 => ?_
  refine ⟨_, rfl, n, rfl, fun hb H2 e2 => ?_, fun hb => RaisedN.mono (gv.err (-3) (by rw [hX, if_neg (by rw [hb]; simp)])) e1⟩
  rw [if_pos hb] at hX
  obtain ⟨h0, h5⟩ := between_0 hb
  obtain ⟨m, rfl⟩ := Int.eq_ofNat_of_zero_le h0
  rw [Int.toNat_natCast] at hX
  have e12 := e1.trans e2
  have hR2 := (hRec.ex (rm_mono e12)).ex rm_ex
  refine q_asgL (el_recL hR2 (ev_var rfl)) fun la H3 hla e3 h3 => ?_
  have e13 := e12.trans e3
  have hR3 := (hRec.ex (rm_mono e13)).ex rm_ex
  refine q_set ⟨_, rfl, el_recL hR3 (ev_var rfl) H3 (Ex.refl H3) _ fun fa H4 hfa e4 h4 => ev_officers S (hR3.ex e4) (ev_var rfl) H4 (Ex.refl H4) _ fun H5 e5 => ⟨_, rfl, la, fa, Vbpxaf.least f, Vbpxaf.forbidden f, count f, m, rfl, sq_of (e5 _ _ (e4 _ _ h3)), sq_of (e5 _ _ h4), h6, by omega, comps_least h6, comps_forb h6, fun hno H6 e6 => ?_, fun ws hws q H6 e6 h6' => ?_⟩⟩
  · have e16 := e13.trans ((e4.trans e5).trans e6)
    rw [hno] at hX
    refine q_when (b := true) (et_is (et_test (ev_op (ev_var rfl) ev_c rv_isN)) rfl) (fun _ H7 e7 => ?_) fun hf => by cases hf
    exact s_retL (el_lst (ea_cons ev_c ea_nil) (by simp)) fun p H8 hp e8 h8 => gv.same hX hF hRec p H8 (fresh_back (e16.trans e7) hp) ((e16.trans e7).trans e8) h8
  · have e36 := (e4.trans e5).trans e6
    have e16 := e13.trans e36
    rw [hws] at hX
    have hlen : ws.length = count f := (mem_rows (List.mem_of_find?_eq_some hws)).1
    refine q_when (b := false) (et_is (et_test (ev_op (ev_var rfl) ev_c rv_isN)) rfl) (fun hf => by cases hf) fun _ H7 e7 => ?_
    have e17 := e16.trans e7
    refine s_retL (el_is (el_catLL (el_lst (vs := [.int 1, .int (quotaL ws (Vbpxaf.least f) : Nat)]) (ea_cons ev_c (ea_cons (ev_h (ea_cons (ev_var rfl) (ea_cons (ev_var rfl) ea_nil)) fun H8 e8 Q E k => ⟨q, la, ws, Vbpxaf.least f, rfl, sq_of ((e7.trans e8) _ _ h6'), sq_of ((e36.trans (e7.trans e8)) _ _ h3), by omega, (comps_least h6).1, (comps_least h6).2, k⟩) ea_nil)) (by simp)) (el_h (xs := intsV (Vbpxaf.listRow ws)) (ea_cons (ev_var rfl) ea_nil) fun H8 e8 Q E k => ⟨q, ws, rfl, (e7.trans e8) _ _ h6', by omega, k⟩) ?_) ?_) fun p H8 hp e8 h8 => gv.same hX hF hRec p H8 (fresh_back e17 hp) (e17.trans e8) h8
    · rw [intsV_len]
      simp [Vbpxaf.listRow, VbpxCore.ints]
      omega
    · rw [quota_eq h6 hlen]
      rfl
theorem run_weigh {f : File} {l : List Int} (h : weightsOk f l) : run f (.weigh l) = .ok (f, if partsL (Vbpxaf.least f) (Vbpxaf.forbidden f) (l.map Int.toNat) = true then VbpxCore.ints [1, Vbpxaf.quota f (l.map Int.toNat)] else [0]) := if_pos h
theorem run_weigh_no {f : File} {l : List Int} (h : ¬ weightsOk f l) : run f (.weigh l) = .error (-4) := if_neg h
theorem ok_answer_weigh (S : Top K mg) : Has P w K mg base (L2.CX P w) "answer_weigh" 50 P_answer_weigh (sp_ans K (callT .weigh)) := by
  refine has_ofX (g_answer_weigh S) (fn_answer_weigh S) sc_answer_weigh bi_answer_weigh (fun vs H Q E h => sp_ans_len h) (fun cdv A outer s H vs Q E hr h => ?_)
  obtain ⟨r, el, a, z, f, xs, zs, c, rfl, hc, hL, hx, hz, hRec, hF, gv⟩ := h
  cases hc
  refine ⟨_, (pss_cons (ps_expr (pe_hS (ok_check_weights S) (hr.mono (by omega)) rfl (takes_of rfl rfl rfl rfl) (pa_cons (pv 1) (pa_cons (pv 0) pa_nil))))
      (pss_cons (ps_set (i := 2) sc_answer_weigh.nd rfl (Or.inl rfl) (pe_h (ok_record_least S) (hr.mono (by omega)) rfl (pa_cons (pv 0) pa_nil)))
      (pss_cons (ps_if (pt_not (pt_val (pe_h (ok_tell_rule S) (hr.mono (by omega)) rfl (pa_cons (pv 1) (pa_cons (pv 2) (pa_cons (pe_h (ok_record_forbidden S) (hr.mono (by omega)) rfl (pa_cons (pv 0) pa_nil)) pa_nil))))))
      (pss_one (ps_ret (pe_lst (pa_cons pe_int pa_nil)))) pss_nil)
      (pss_one (ps_ret (pe_lst (pa_cons pe_int (pa_cons (pe_h (ok_quota_of S) (hr.mono (by omega)) rfl (pa_cons (pv 1) (pa_cons (pv 2) pa_nil))) pa_nil)))))))), ?_⟩
  have h6 : count f ≤ 6 := hF.names.few
  have hR := hRec.ex rm_ex
  refine q_list (ev_var rfl) (ev_var rfl) hL hx hR (fun hb H1 e1 => ?_) fun hb => gv.err _ (run_weigh_no hb)
  have hX := run_weigh hb
  have hL1 := e1 _ _ hL
  rw [nn_nats hb.2] at hL1
  have hlen : (xs.map Int.toNat).length = count f := by rw [List.length_map]; exact hb.1
  generalize xs.map Int.toNat = ws at hX hL1 hlen
  refine q_asgL (el_recL (hR.ex e1) (ev_var rfl)) fun la H2 hla e2 h2 => ?_
  have e12 := e1.trans e2
  refine q_when (b := !partsL (Vbpxaf.least f) (Vbpxaf.forbidden f) ws) (et_not (et_B fun H3 e3 Q k => ?_)) (fun hb2 H3 e3 => ?_) fun hb2 H3 e3 => ?_
  · refine ⟨_, rfl, _, rfl, el_recL ((hR.ex e12).ex e3) (ev_var rfl) H3 (Ex.refl H3) _ fun fa H4 hfa e4 h4 => ?_⟩
    exact ⟨a, la, fa, ws, Vbpxaf.least f, Vbpxaf.forbidden f, rfl, sq_of (((e2.trans e3).trans e4) _ _ hL1), sq_of ((e3.trans e4) _ _ h2), sq_of h4, by omega, (comps_least h6).1, (comps_forb h6).1, (comps_least h6).2, (comps_forb h6).2, fun H5 e5 => k H5 (e4.trans e5)⟩
  · have hb3 : partsL (Vbpxaf.least f) (Vbpxaf.forbidden f) ws = false := by simpa using hb2
    rw [hb3] at hX
    have e13 := e12.trans e3
    exact s_retL (el_lst (ea_cons ev_c ea_nil) (by simp)) fun p H8 hp e8 h8 => gv.same hX hF hRec p H8 (fresh_back e13 hp) (e13.trans e8) h8
  · have hb3 : partsL (Vbpxaf.least f) (Vbpxaf.forbidden f) ws = true := by simpa using hb2
    rw [hb3, if_pos rfl, quota_eq h6 hlen] at hX
    have e13 := e12.trans e3
    refine s_retL (el_lst (vs := intsV (VbpxCore.ints [1, quotaL ws (Vbpxaf.least f)])) (ea_cons ev_c (ea_cons (ev_h (ea_cons (ev_var rfl) (ea_cons (ev_var rfl) ea_nil)) fun H8 e8 Q E k => ⟨a, la, ws, Vbpxaf.least f, rfl, sq_of ((e2.trans (e3.trans e8)) _ _ hL1), sq_of ((e3.trans e8) _ _ h2), by omega, (comps_least h6).1, (comps_least h6).2, k⟩) ea_nil)) (by simp [intsV, VbpxCore.ints])) fun p H8 hp e8 h8 => gv.same hX hF hRec p H8 (fresh_back e13 hp) (e13.trans e8) h8
/-! ### a trade -/
theorem trade_quad {good bad l : List Nat} (h : tradeL good bad = some l) : ∃ p q, l = quad p q := by
  unfold tradeL at h
  obtain ⟨p, _, hp⟩ := List.exists_of_findSome?_eq_some h
  obtain ⟨q, _, hq⟩ := Option.map_eq_some_iff.mp hp
  exact ⟨p, q, hq.symm⟩
theorem run_trade {f : File} : run f .trade = (match tradeL (goodL (count f) (may f)) (goodL (count f) fun c => !may f c) with
    | none => .ok (f, [0])
    | some l => .ok (f, 1 :: VbpxCore.ints l)) := by
  show (match Vbpxaf.trade f with
    | none => _
    | some l => _) = _
  rw [trade_eq]
  rfl
theorem ok_answer_trade (S : Top K mg) : Has P w K mg base (L2.CX P w) "answer_trade" 50 P_answer_trade (sp_ans K (call0 .trade)) := by
  refine has_ofX (g_answer_trade S) (fn_answer_trade S) sc_answer_trade bi_answer_trade (fun vs H Q E h => sp_ans_len h) (fun cdv A outer s H vs Q E hr h => ?_)
  obtain ⟨r, el, a, z, f, xs, zs, c, rfl, hc, hL, hx, hz, hRec, hF, gv⟩ := h
  cases hc
  refine ⟨_, (pss_cons (ps_set (i := 2) sc_answer_trade.nd rfl (Or.inl rfl) (pe_h (ok_first_trade S) (hr.mono (by omega)) rfl (pa_cons (pe_f K (pe_f K (pv 0))) pa_nil)))
      (pss_one (ps_ret (pe_ifExp (pt_cmpR op_gt (pe_callB (cLen K) (by rfl) (n_len S) PySem.boot_len (pa_cons (pv 2) pa_nil)) pe_int (nomark _)) (pe_op op_cat (pe_lst (pa_cons pe_int pa_nil)) (pv 2)) (pe_lst (pa_cons pe_int pa_nil)))))), ?_⟩
  have hX := run_trade (f := f)
  obtain ⟨tb, hT, hE⟩ := ev_allowed S (hRec.ex rm_ex) (te := tVar 0) (σ := [some (.ref r), some (.ref a), none]) (ev_var rfl)
  refine q_asgL (el_h (ea_cons hE ea_nil) fun H1 e1 Q E q => ⟨tb, count f, may f, rfl, hT.ex e1, q⟩) fun p H1 hp e1 h1 => ?_
  cases ht : tradeL (goodL (count f) (may f)) (goodL (count f) fun c => !may f c) with
  | none =>
    rw [ht] at hX h1
    exact s_retL (el_ifL (b := false) (et_is (et_test (ev_op (ev_len (ev_var rfl) (sq_of h1)) ev_c rv_I0)) rfl) (fun hf => by cases hf) fun _ => el_lst (ea_cons ev_c ea_nil) (by simp)) fun q H2 hq e2 h2 => gv.same hX hF hRec q H2 (fresh_back e1 hq) (e1.trans e2) h2
  | some l =>
    rw [ht] at hX h1
    obtain ⟨x, y, rfl⟩ := trade_quad ht
    refine s_retL (xs := intsV (1 :: VbpxCore.ints (quad x y))) (el_ifL (b := true) (et_is (et_test (ev_op (ev_len (ev_var rfl) (sq_of h1)) ev_c rv_I0)) rfl) (fun _ => el_is (el_catL (el_lst (ea_cons ev_c ea_nil) (by simp)) (ev_var rfl) h1 (by rw [nats_len]; simp [quad])) ?_) fun hf => by cases hf) fun q H2 hq e2 h2 => gv.same hX hF hRec q H2 (fresh_back e1 hq) (e1.trans e2) h2
    rfl
/-! ### a rule is set, compared -/
theorem run_rule_no {f : File} {t : List Int} (h : (t.all fun c => isBetween c 0 255) = false) : run f (.rule t) = .error (-1) := by
  show (Vbpxaf.textIn t >>= _) = _
  rw [text_no h]
  rfl
theorem run_rule {f : File} {t : List Int} (h : (t.all fun c => isBetween c 0 255) = true) (hl : t.length ≤ 2000) : run f (.rule t) = (match Vbpxaf.readRule f (t.map Int.toNat) with
    | .error p => .error (-1000 - (p : Int))
    | .ok r => if f.events.isEmpty = false then .error (-6) else .ok ({ f with rule := r }, [0])) := by
  show (Vbpxaf.textIn t >>= _) = _
  rw [text_ok h hl]
  rfl
theorem run_compare_no {f : File} {t : List Int} (h : (t.all fun c => isBetween c 0 255) = false) : run f (.compare t) = .error (-1) := by
  show (Vbpxaf.textIn t >>= _) = _
  rw [text_no h]
  rfl
theorem run_compare {f : File} {t : List Int} (h : (t.all fun c => isBetween c 0 255) = true) (hl : t.length ≤ 2000) : run f (.compare t) = (match Vbpxaf.readRule f (t.map Int.toNat) with
    | .error p => .error (-1000 - (p : Int))
    | .ok r => .ok (f, sameAns f (opens r))) := by
  show (Vbpxaf.textIn t >>= _) = _
  rw [text_ok h hl]
  show (match Vbpxaf.readRule f (t.map Int.toNat) with
    | .error p => _
    | .ok r => _) = _
  cases Vbpxaf.readRule f (t.map Int.toNat) with
  | error p => rfl
  | ok r =>
    unfold sameAns
    dsimp only
    cases (Vbpxaf.companies f).find? fun c => opens r c != may f c <;> rfl
theorem ok_answer_compare (S : Top K mg) : Has P w K mg base (L2.CX P w) "answer_compare" 50 P_answer_compare (sp_ans K (callT .compare)) := by
  refine has_ofX (g_answer_compare S) (fn_answer_compare S) sc_answer_compare bi_answer_compare (fun vs H Q E h => sp_ans_len h) (fun cdv A outer s H vs Q E hr h => ?_)
  obtain ⟨r, el, a, z, f, xs, zs, c, rfl, hc, hL, hx, hz, hRec, hF, gv⟩ := h
  cases hc
  refine ⟨_, (pss_cons (ps_expr (pe_hS (ok_check_bytes S) (hr.mono (by omega)) rfl (takes_of rfl rfl rfl rfl) (pa_cons (pv 1) pa_nil)))
      (pss_one (ps_ret (pe_h (ok_same_or_first_otherwise S) (hr.mono (by omega)) rfl (pa_cons (pv 0) (pa_cons (pe_f K (pe_hS (ok_read_one_rule S) (hr.mono (by omega)) rfl (takes_of rfl rfl rfl rfl) (pa_cons (pv 1) (pa_cons (pe_f K (pv 0)) pa_nil)))) pa_nil)))))), ?_⟩
  refine q_bytes rfl hL hx (fun hb H1 e1 => ?_) fun hb => gv.no (run_compare_no hb) .bytes (Ex.refl H)
  have hX := run_compare (f := f) hb hx
  have hL1 := e1 _ _ hL
  rw [bytes_nats hb] at hL1
  have hR1 := (hRec.ex (rm_mono e1)).ex rm_ex
  obtain ⟨dr, nl, ru, hr0, hN, hRu, hEv, hne⟩ := id hR1
  refine ⟨_, rfl, _, rfl, ev_fld (ev_var rfl) hr0 (cl_Record S) (na_Record_names S) (rec_names _ _ _) H1 (Ex.refl H1) _ fun H2 e2 => ⟨a, nl, xs.map Int.toNat, f, rfl, sq_of (e2 _ _ hL1), by simpa using hx, hN.ex e2, fun n hn => gv.no (by rw [hX, hn]) (.fault n) (e1.trans e2), fun rl hrl hO hsz p H3 hp e3 hA => ?_⟩⟩
  rw [hrl] at hX
  have e13 := (e1.trans e2).trans e3
  obtain ⟨dp, tl, hpo, hT⟩ := id hA
  refine ⟨p, _, dp, _, _, rfl, hpo, cl_Rule S, na_Rule_allowed S, rule_al _ _ _, ?_⟩
  exact ⟨r, el, tl, f, opens rl, rfl, hR1.ex (e2.trans e3), hT, fun q H4 hq e4 h4 => gv.same hX hF hRec q H4 (fresh_back e13 hq) (e13.trans e4) h4⟩
theorem rule_ok {f : File} {rl : Vbpxaf.Rule} (hF : FileOk f) (he : f.events = []) (hO : RuleOk f rl) (hs : rsz rl ≤ 1000000) : FileOk { f with rule := rl } := by
  refine ⟨Names.congr (f := f) rfl hF.names, ok_congr (f := f) (g := { f with rule := rl }) rfl hO, hs, fun i e h => ?_, hF.few⟩
  have h' : f.events[i]? = some e := h
  rw [he] at h'
  cases h'
theorem ok_answer_rule (S : Top K mg) : Has P w K mg base (L2.CX P w) "answer_rule" 50 P_answer_rule (sp_ans K (callT .rule)) := by
  refine has_ofX (g_answer_rule S) (fn_answer_rule S) sc_answer_rule bi_answer_rule (fun vs H Q E h => sp_ans_len h) (fun cdv A outer s H vs Q E hr h => ?_)
  obtain ⟨r, el, a, z, f, xs, zs, c, rfl, hc, hL, hx, hz, hRec, hF, gv⟩ := h
  cases hc
  refine ⟨_, (pss_cons (ps_expr (pe_hS (ok_check_bytes S) (hr.mono (by omega)) rfl (takes_of rfl rfl rfl rfl) (pa_cons (pv 1) pa_nil)))
      (pss_cons (ps_set (i := 2) sc_answer_rule.nd rfl (Or.inl rfl) (pe_hS (ok_read_one_rule S) (hr.mono (by omega)) rfl (takes_of rfl rfl rfl rfl) (pa_cons (pv 1) (pa_cons (pe_f K (pv 0)) pa_nil))))
      (pss_cons (ps_if (pt_cmpR op_gt (pe_callB (cLen K) (by rfl) (n_len S) PySem.boot_len (pa_cons (pe_f K (pv 0)) pa_nil)) pe_int (nomark _))
      (pss_one (ps_raise rfl (takes_of rfl rfl rfl rfl) (pmk_x0 K (ok_HasEvents S) (hr.mono (by omega)) rfl ))) pss_nil)
      (pss_cons (ps_f K (pv 0) (pv 2))
      (pss_one (ps_ret (pe_lst (pa_cons pe_int pa_nil)))))))), ?_⟩
  refine q_bytes rfl hL hx (fun hb H1 e1 => ?_) fun hb => gv.no (run_rule_no hb) .bytes (Ex.refl H)
  have hX := run_rule (f := f) hb hx
  have hL1 := e1 _ _ hL
  rw [bytes_nats hb] at hL1
  have hR1 := (hRec.ex (rm_mono e1)).ex rm_ex
  obtain ⟨dr1, nl1, ru1, hr1, hN1, hRu1, hEv1, hne1⟩ := id hR1
  refine q_set ⟨_, rfl, ev_fld (ev_var rfl) hr1 (cl_Record S) (na_Record_names S) (rec_names _ _ _) H1 (Ex.refl H1) _ fun H2 e2 => ⟨a, nl1, xs.map Int.toNat, f, rfl, sq_of (e2 _ _ hL1), by simpa using hx, hN1.ex e2, fun n hn => gv.no (by rw [hX, hn]) (.fault n) (e1.trans e2), fun rl hrl hO hsz p H3 hp e3 hA => ?_⟩⟩
  have hX2 : run f (.rule xs) = (if f.events.isEmpty = false then .error (-6) else .ok ({ f with rule := rl }, [0])) := by rw [hX, hrl]
  have e13 := (e1.trans e2).trans e3
  have hRec3 := hRec.ex (rm_mono e13)
  refine q_when (b := !f.events.isEmpty) (et_is (et_test (ev_op (ev_events S (hRec3.ex rm_ex) (ev_var rfl)) ev_c rv_I0)) ?_) (fun hb2 H4 e4 => ?_) fun hb2 H4 e4 => ?_
  · cases f.events with
    | nil => rfl
    | cons x l => exact decide_eq_true (by simp)
  · exact err0 (gv.no (by rw [hX2, if_pos (by simpa using hb2)]) .events (e13.trans e4))
  have hev : f.events = [] := by
    have : f.events.isEmpty = true := by simpa using hb2
    exact List.isEmpty_iff.mp this
  rw [if_neg (by rw [hev]; simp)] at hX2
  have e14 := e13.trans e4
  have hRec4 := hRec.ex (rm_mono e14)
  obtain ⟨dr, nl, ru, hr0, hN, hRu, hE, hne⟩ := id hRec4
  obtain ⟨rz, _, hrH⟩ := rm_at hr0
  have hA4 : RuleAt K (rm H4 z z) p f rl := RuleAt.off (RuleObj.ex hA e4) (e14 _ _ hz)
  refine q_fld (v := .ref p) (ev_var rfl) (ev_var rfl) hrH (cl_Record S) (na_Record_rule S) (by simp [nmRecord]) fun H5 e5 => ?_
  rw [rec_put2]
  have hP : PartsAt K (rm H5 z z) nl p el { f with rule := rl } := ⟨NamesAt.congr (f := f) rfl (hN.ex (rm_mono e5)), RuleAt.congr (f := f) rfl (RuleObj.ex hA4 (rm_mono e5)), hE.ex (rm_mono e5), hne⟩
  have hR6 : RecordAt K (rm (upd H5 r (.ins (He.ga K "Record") dr (nmRecord.zip [.ref nl, .ref p, .ref el]))) z z) r el { f with rule := rl } := RecordAt.moved (q := r) (dq := dr) hP (rm_of rz rz (e5 _ _ hrH)) (rm_monoB ExB.upd) (rm_of rz rz upd_same)
  refine s_retL (el_lst (ea_cons ev_c ea_nil) (by simp)) fun q H6 hq e6 h6 => gv.ok _ _ hX2 (rule_ok hF hev hO hsz) q el H6 ?_ (fun b o n1 n2 hb => ?_) (.inl rfl) (hR6.ex (rm_mono e6)) h6
  · by_cases e : q = r
    · rw [e, upd_same] at hq
      cases hq
    · rw [upd_ne e] at hq
      exact fresh_back (e14.trans e5) hq
  · refine e6 _ _ ?_
    rw [upd_ne n1]
    exact (e14.trans e5) _ _ hb
/-! ### what is there now, and was -/
theorem ok_answer_now (S : Top K mg) : Has P w K mg base (L2.CX P w) "answer_now" 50 P_answer_now (sp_ans K (call0 .now)) := by
  refine has_ofX (g_answer_now S) (fn_answer_now S) sc_answer_now bi_answer_now (fun vs H Q E h => sp_ans_len h) (fun cdv A outer s H vs Q E hr h => ?_)
  obtain ⟨r, el, a, z, f, xs, zs, c, rfl, hc, hL, hx, hz, hRec, hF, gv⟩ := h
  cases hc
  refine ⟨_, (pss_one (ps_ret (pe_h (ok_state_behind S) (hr.mono (by omega)) rfl (pa_cons (pv 0) (pa_cons (pe_f K (pv 0)) pa_nil))))), ?_⟩
  have hR := hRec.ex rm_ex
  obtain ⟨dr, nl, ru, hr0, hN, hRu, hE, hne⟩ := id hR
  have hX : run f .now = .ok (f, Vbpxaf.nowRow f (f.events.foldl done Vbpxaf.begin_)) := by
    rw [← now_eq]
    rfl
  exact s_retL (el_h (ea_cons (ev_var rfl) (ea_cons (ev_fld (ev_var rfl) hr0 (cl_Record S) (na_Record_events S) (rec_events _ _ _)) ea_nil)) fun H1 e1 Q E q => ⟨r, el, el, f, f.events, rfl, hR.ex e1, hE.ex e1, hF.names.few, hF.valid, hF.few, q⟩) (gv.same hX hF hRec)
theorem run_behind {f : File} {n : Int} : run f (.behind n) = (oneOf 60 (f.events.length + 1) n >>= fun c => .ok (f, Vbpxaf.nowRow f ((f.events.take c).foldl done Vbpxaf.begin_))) := by
  show (Vbpxaf.eventsTo f n >>= _) = _
  rw [events_one]
  rfl
theorem valid_take {f : File} {es : List Vbpxaf.Event} {c : Nat} (h : Valid f es) : Valid f (es.take c) := fun i e he => by
  have hi := (List.getElem?_eq_some_iff.mp he).1
  rw [List.length_take] at hi
  rw [List.getElem?_take_of_lt (by omega)] at he
  have := h i e he
  rw [List.take_take, Nat.min_eq_left (by omega)]
  exact this
theorem ok_answer_behind (S : Top K mg) : Has P w K mg base (L2.CX P w) "answer_behind" 50 P_answer_behind (sp_ans K (call1 .behind)) := by
  refine has_ofX (g_answer_behind S) (fn_answer_behind S) sc_answer_behind bi_answer_behind (fun vs H Q E h => sp_ans_len h) (fun cdv A outer s H vs Q E hr h => ?_)
  obtain ⟨r, el, a, z, f, xs, zs, c, rfl, ⟨n, rfl, rfl⟩, hL, hx, hz, hRec, hF, gv⟩ := h
  refine ⟨_, (pss_cons (ps_set (i := 2) sc_answer_behind.nd rfl (Or.inl rfl) (pe_ix (ixL K) (pv 1) pe_int (fun _ _ => rfl)))
      (pss_cons (ps_expr (pe_hS (ok_check_how_many_events S) (hr.mono (by omega)) rfl (takes_of rfl rfl rfl rfl) (pa_cons (pv 2) (pa_cons (pv 0) pa_nil))))
      (pss_one (ps_ret (pe_h (ok_state_behind S) (hr.mono (by omega)) rfl (pa_cons (pv 0) (pa_cons (pe_slice (slL K) (pe_f K (pv 0)) po_none (po_some (pv 2))) pa_nil))))))), ?_⟩
  have hX := run_behind (f := f) (n := n)
  refine q_asg (v := .int n) (ev_op (ev_var rfl) ev_c (rv_ixL (sq_of hL) at_first)) fun H1 e1 => ?_
  refine q_one (ev_var rfl) (ev_var rfl) ((hRec.ex (rm_mono e1)).ex rm_ex) (fun c hc H3 e3 => ?_) fun e he => RaisedN.mono (gv.err e (by rw [hX, he]; rfl)) e1
  rw [hc] at hX
  obtain ⟨rfl, hlt, _⟩ := oneOf_ok hc
  have e13 := e1.trans e3
  have hR3 := (hRec.ex (rm_mono e13)).ex rm_ex
  obtain ⟨dr, nl, ru, hr0, hN, hRu, ⟨ps, hel, hps⟩, hne⟩ := id hR3
  have hlen := paired_len hps
  refine s_retL (fun H4 e4 Q q => ⟨_, rfl, el_sl (ev_fld (ev_var rfl) hr0 (cl_Record S) (na_Record_events S) (rec_events _ _ _)) eo_none (eo_some (ev_var rfl)) (sq_of hel) H4 e4 _ fun el' H5 hel' e5 h5 => ?_⟩) fun q H4 hq e4 h4 => gv.same hX hF hRec q H4 (fresh_back e13 hq) (e13.trans e4) h4
  rw [cut_take _ (by omega) (by rw [List.length_map, hlen, Int.toNat_natCast]; omega), Int.toNat_natCast, ← List.map_take] at h5
  refine ⟨r, el, el', f, f.events.take c, rfl, (hR3.ex e4).ex e5, ⟨ps.take c, h5, paired_take _ (L2.Paired.mapP hps fun _ _ y => y.ex (e4.trans e5))⟩, hF.names.few, valid_take hF.valid, ?_, fun p H6 hp e6 h6 => q p H6 (fresh_back e5 hp) (e5.trans e6) h6⟩
  rw [List.length_take]
  have := hF.few
  omega
theorem ok_answer_opened (S : Top K mg) : Has P w K mg base (L2.CX P w) "answer_opened" 50 P_answer_opened (sp_ans K (call0 .opened)) := by
  refine has_ofX (g_answer_opened S) (fn_answer_opened S) sc_answer_opened bi_answer_opened (fun vs H Q E h => sp_ans_len h) (fun cdv A outer s H vs Q E hr h => ?_)
  obtain ⟨r, el, a, z, f, xs, zs, c, rfl, hc, hL, hx, hz, hRec, hF, gv⟩ := h
  cases hc
  refine ⟨_, (pss_one (ps_ret (pe_h (ok_counted S) (hr.mono (by omega)) rfl (pa_cons (pe_h (ok_unlockings S) (hr.mono (by omega)) rfl (pa_cons (pe_f K (pv 0)) pa_nil)) pa_nil)))), ?_⟩
  have hR := hRec.ex rm_ex
  obtain ⟨dr, nl, ru, hr0, hN, hRu, hE, hne⟩ := id hR
  have hl : (opensAt f.events).length ≤ 60 := by
    have h := List.length_filter_le (fun k => f.events[k]? == some .open_) (List.range f.events.length)
    rw [List.length_range] at h
    exact Nat.le_trans h hF.few
  exact s_retL (el_counted (l := opensAt f.events) (el_h (ea_cons (ev_fld (ev_var rfl) hr0 (cl_Record S) (na_Record_events S) (rec_events _ _ _)) ea_nil) fun H1 e1 Q E q => ⟨el, f.events, rfl, hE.ex e1, hF.few, q⟩) (by omega)) (gv.same rfl hF hRec)
end
end CK
/-! calls.py: look -/
namespace CK
open PySem PySem.Spec PyProof.Rows L2 Evl
open Vbpxaf (bit count opens File nameOf Now mayBe done acting may W now put readFile run fileText)
open VbpxCore (isBetween between)
section
variable {P : Program} {w : World} {K : PySem.W.Frag} {mg : Str → Option Value} {base : Heap}
theorem run_look_no {f : File} {t : List Int} (h : (t.all fun c => isBetween c 0 255) = false) : run f (.look t) = .error (-1) := by
  show (Vbpxaf.textIn t >>= _) = _
  rw [text_no h]
  rfl
theorem run_look {f : File} {t : List Int} (h : (t.all fun c => isBetween c 0 255) = true) (hl : t.length ≤ 2000) : run f (.look t) = (match readFile (t.map Int.toNat) with
    | .error p => .ok (f, [1, (p : Int)])
    | .ok g => .ok (f, [0])) := by
  show (Vbpxaf.textIn t >>= _) = _
  rw [text_ok h hl]
  rfl
def tsLook (K : PySem.W.Frag) (a : Addr) (cls : Value) (d : Option Addr) : TS := tRet (tLst (tCons (tC (.int 1)) (tCons (tXf a cls d (He.ga K "Fault") "place" (tVar 2)) tNil)))
theorem lk_place (n : Int) : (faultF n).lookup ("place" : Str) = some (.int n) := lk_here
theorem ok_answer_look (S : Top K mg) : Has P w K mg base (L2.CX P w) "answer_look" 50 P_answer_look (sp_ans K (callT .look)) := by
  refine has_ofX (g_answer_look S) (fn_answer_look S) sc_answer_look bi_answer_look (fun vs H Q E h => sp_ans_len h) (fun cdv A outer s H vs Q E hr h => ?_)
  obtain ⟨r, el, a, z, f, xs, zs, c, rfl, hc, hL, hx, hz, hRec, hF, gv⟩ := h
  cases hc
  refine ⟨_, (pss_cons (ps_expr (pe_hS (ok_check_bytes S) (hr.mono (by omega)) rfl (takes_of rfl rfl rfl rfl) (pa_cons (pv 1) pa_nil)))
      (pss_cons (ps_try_as (i := 2) (tb := fun W => tDrop (tCallS (sp_read_file K) (WE W) (tCons (tVar 1) tNil))) (ts := tsLook K) rfl rfl sc_answer_look.nd rfl rfl ⟨rfl, by decide, Or.inl (g_Fault S)⟩ (takes_of rfl rfl rfl rfl)
        (fun W pn xe tk _ => pss_one (ps_expr (pe_hS (ok_read_file S) (hr.mono (by omega)) rfl tk (pa_cons (pv 1) pa_nil))))
        (fun a oe cls d pn hz hf => pss_one (ps_ret (pe_lst (pa_cons pe_int (pa_cons (pe_xf (S.xc 7 rfl).1.xf ((S.xc 7 rfl).2 _ (by simp)) hz hf (pv 2)) pa_nil))))))
      (pss_one (ps_ret (pe_lst (pa_cons pe_int pa_nil)))))), ?_⟩
  refine q_bytes rfl hL hx (fun hb H1 e1 => ?_) fun hb => gv.no (run_look_no hb) .bytes (Ex.refl H)
  have hX := run_look (f := f) hb hx
  have hL1 := e1 _ _ hL
  rw [bytes_nats hb] at hL1
  refine ⟨_, rfl, a, z, xs.map Int.toNat, zs, rfl, sq_of hL1, (by simpa using hx), e1 _ _ hz, fun n hn => ?_, fun g hg hFg q el' H2 hq hel' e2 hoff => ?_⟩
  · rw [hn] at hX
    intro d H2 hd e2 hd2
    refine ⟨true, S.exm 14 rfl, fun _ b hb' => ?_, fun hf => by cases hf⟩
    have e12 := e1.trans e2
    refine ⟨_, rfl, rfl, rfl, d, _, _, rfl, hd2, lk_place _, by simp [sizeLine_eq], fun p hp => ?_⟩
    exact gv.same hX hF hRec p _ (fresh_back e12 hp) (e12.trans (Ex.new hp)) upd_same
  · rw [hg] at hX
    have e12 := e1.trans e2
    show tRet (tLst (tCons (tC (V.int 0)) tNil)) { nx := fun _ H' => Q V.non H', rt := Q } (start N_answer_look [V.ref r, V.ref a]) H2
    exact s_retL (el_lst (ea_cons ev_c ea_nil) (by simp)) fun p H3 hp e3 h3 => gv.same hX hF hRec p H3 (fresh_back e12 hp) (e12.trans e3) h3
/-! ### one of the answering defs, by its place -/
/-- a call of what an expression gives: one of the defs told by C -/
def tDyn (K : PySem.W.Frag) (C : Str → Sp → Prop) (E : L2.St → XK) (tf : TE) (t : TA) : TE := fun σ H Q => tf σ H fun v H1 => ∃ (x : Str) (sp : Sp), v = .ref (He.ga K x) ∧ C x sp ∧ t σ H1 fun vs H2 => sp vs H2 Q (E σ)
theorem pe_dyn {X : Cx} (K : PySem.W.Frag) {C : Str → Sp → Prop} {Wx : WX} {func e : Expr} {es : List Expr} {tf : TE} {t : TA} {pos : Pos} (hC : ∀ x sp, C x sp → ∃ k ps, Has X.prog X.w X.K X.mg X.base (L2.CX X.prog X.w) x k ps sp ∧ Room k X.A) (tk : Takes X Wx) (hf : PE X func tf) (ha : PA X (e :: es) t)
    (hev : eval (.Call func (e :: es) [] pos) X.env = (do callWith pos (← eval func X.env) [] (backTo pos (starEach (e :: es) X.env)) (backToKw pos (keywordEach [] X.env))) := by rfl)
    (he : starEach (e :: es) X.env = (false, eval e X.env) :: starEach es X.env := by rfl) (hp : (backTo pos (starEach es X.env)).any (·.1) = false := by rfl) (hK : X.K = K := by rfl) :
    PE X (.Call func (e :: es) [] pos) (tDyn K C (WE Wx) tf t) := by
  subst hK
  refine ⟨fun pins s σ H Q I h => Call_ (thn (hf.run pins s σ H _ I h) fun u s1 y => ?_) hev⟩
  obtain ⟨v, H1, I1, rv, x, sp, ev, hc, q⟩ := y
  subst ev
  obtain rfl : u = Value.ref (He.ga X.K x) := rv
  obtain ⟨k, ps, F, hr⟩ := hC x sp hc
  obtain ⟨fd, b, G⟩ := F.fn
  refine PySem.W.callWith_K (h₀ := X.base) I1.ok.mod.kin F.kp (thn (ha.run pos pins s1 σ H1 _ I1 q) fun us s2 y => ?_) he hp
  obtain ⟨vs, H2, I2, r, q2⟩ := y
  exact ⟨I2.kIn, run_fnS G hr b (passAt tk σ) I2 r q2⟩
/-- the calls by their numbers -/
def rels : List (Str × (List Int → Vbpxaf.Call → Prop)) := [("answer_clear", call0 .clear), ("answer_file", callT .file), ("answer_look", callT .look), ("answer_text", call0 .text), ("answer_event", callT .event), ("answer_undo", call1 .undo), ("answer_told", call0 .told), ("answer_may", call1 .may), ("answer_least", call0 .least), ("answer_forbidden", call0 .forbidden), ("answer_locks", call0 .locks), ("answer_keys", call0 .keys), ("answer_scheme", callT .scheme), ("answer_swings", call0 .swings), ("answer_power", call0 .power), ("answer_idle", call0 .idle), ("answer_alike", call2 .alike), ("answer_hinder", call0 .hinder), ("answer_without", call1 .without), ("answer_weights", call1 .weights), ("answer_weigh", callT .weigh), ("answer_trade", call0 .trade), ("answer_rule", callT .rule), ("answer_compare", callT .compare), ("answer_now", call0 .now), ("answer_behind", call1 .behind), ("answer_opened", call0 .opened)]
def cands (K : PySem.W.Frag) : List (Str × Sp) := rels.map fun c => (c.1, sp_ans K c.2)
theorem cands_ok (S : Top K mg) {x : Str} {sp : Sp} (h : (x, sp) ∈ cands K) : ∃ ps, Has P w K mg base (L2.CX P w) x 50 ps sp := by
  unfold cands rels at h
  simp only [List.map_cons, List.map_nil, List.mem_cons, List.not_mem_nil, or_false, Prod.mk.injEq] at h
  rcases h with ⟨rfl, rfl⟩ | ⟨rfl, rfl⟩ | ⟨rfl, rfl⟩ | ⟨rfl, rfl⟩ | ⟨rfl, rfl⟩ | ⟨rfl, rfl⟩ | ⟨rfl, rfl⟩ | ⟨rfl, rfl⟩ | ⟨rfl, rfl⟩ | ⟨rfl, rfl⟩ | ⟨rfl, rfl⟩ | ⟨rfl, rfl⟩ | ⟨rfl, rfl⟩ | ⟨rfl, rfl⟩ | ⟨rfl, rfl⟩ | ⟨rfl, rfl⟩ | ⟨rfl, rfl⟩ | ⟨rfl, rfl⟩ | ⟨rfl, rfl⟩ | ⟨rfl, rfl⟩ | ⟨rfl, rfl⟩ | ⟨rfl, rfl⟩ | ⟨rfl, rfl⟩ | ⟨rfl, rfl⟩ | ⟨rfl, rfl⟩ | ⟨rfl, rfl⟩ | ⟨rfl, rfl⟩
  · exact ⟨_, ok_answer_clear S⟩
  · exact ⟨_, ok_answer_file S⟩
  · exact ⟨_, ok_answer_look S⟩
  · exact ⟨_, ok_answer_text S⟩
  · exact ⟨_, ok_answer_event S⟩
  · exact ⟨_, ok_answer_undo S⟩
  · exact ⟨_, ok_answer_told S⟩
  · exact ⟨_, ok_answer_may S⟩
  · exact ⟨_, ok_answer_least S⟩
  · exact ⟨_, ok_answer_forbidden S⟩
  · exact ⟨_, ok_answer_locks S⟩
  · exact ⟨_, ok_answer_keys S⟩
  · exact ⟨_, ok_answer_scheme S⟩
  · exact ⟨_, ok_answer_swings S⟩
  · exact ⟨_, ok_answer_power S⟩
  · exact ⟨_, ok_answer_idle S⟩
  · exact ⟨_, ok_answer_alike S⟩
  · exact ⟨_, ok_answer_hinder S⟩
  · exact ⟨_, ok_answer_without S⟩
  · exact ⟨_, ok_answer_weights S⟩
  · exact ⟨_, ok_answer_weigh S⟩
  · exact ⟨_, ok_answer_trade S⟩
  · exact ⟨_, ok_answer_rule S⟩
  · exact ⟨_, ok_answer_compare S⟩
  · exact ⟨_, ok_answer_now S⟩
  · exact ⟨_, ok_answer_behind S⟩
  · exact ⟨_, ok_answer_opened S⟩
theorem answerers : t_ANSWERERS.map (He.Dv.v K) = rels.map fun c => V.ref (He.ga K c.1) := rfl
end
end CK
/-! calls.py: answer -/
namespace CK
open PySem PySem.Spec PyProof.Rows L2 Evl
open Vbpxaf (bit count opens File nameOf Now mayBe done acting may W now put readFile run fileText)
open VbpxCore (isBetween between)
section
variable {P : Program} {w : World} {K : PySem.W.Frag} {mg : Str → Option Value} {base : Heap}
def after (f : File) (c : Vbpxaf.Call) : File × List Int := match run f c with
  | .ok r => r
  | .error e => (f, [e])
def sp_answer (K : PySem.W.Frag) : Sp := fun vs H Q _ => ∃ (r el a z : Addr) (f : File) (xs zs : List Int) (i : Nat) (x : Str) (C : List Int → Vbpxaf.Call → Prop) (c : Vbpxaf.Call), vs = [.ref r, .int (i : Int), .ref a] ∧ rels[i]? = some (x, C) ∧ C xs c ∧ H a = some (.lst (intsV xs)) ∧ xs.length ≤ 2000 ∧ H z = some (.lst (intsV zs)) ∧ RecordAt K (rm H z z) r el f ∧ FileOk f ∧
  (FileOk (after f c).1 → ∀ p el' H2, H p = none → ExH r el H H2 → (el' = el ∨ H el' = none) → RecordAt K (rm H2 z z) r el' (after f c).1 → H2 p = some (.lst (intsV (after f c).2)) → Q (.ref p) H2)
def tsAns (K : PySem.W.Frag) (a : Addr) (cls : Value) (d : Option Addr) : TS := fun D σ H => ∃ C : Addr, cls = .ref C ∧ XfC K C ∧ PySem.W.findIn K (.ref C) "number" = some none ∧ tRet (tLst (tCons (tXf a cls d C "number" (tVar 3)) tNil)) D σ H
theorem pss_some {X : Cx} {st : List Stmt} {α : Type} {A : α → Prop} {t : α → TS} (h : ∀ C, A C → PSs X st (t C)) : PSs X st (fun D σ H => ∃ C, A C ∧ t C D σ H) := ⟨fun pins s σ H D I ⟨C, h1, h2⟩ => (h C h1).run pins s σ H D I h2⟩
theorem ev_lenT {σ : L2.St} {H : Hp} {ta : TE} {p : Addr} {xs : List V} (ha : Ev ta σ H (.ref p)) (h : ∀ H1, SqT K H1 p xs) : Ev (tCB (rLenS K) (tCons ta tNil)) σ H (.int (xs.length : Int)) := fun H1 e1 Q q => ha H1 e1 _ fun H2 e2 => ⟨p, xs, rfl, .inr (h H2), q H2 e2⟩
theorem ref_number {x : Str} {fs : List (Str × V)} {n : Int} (h : Refuses x fs n) : fs.lookup ("number" : Str) = some (.int n) := by
  cases h with
  | fault m => exact (lk_past (by decide +kernel)).trans lk_here
  | bytes => exact lk_here
  | range => exact lk_here
  | list => exact lk_here
  | there => exact lk_here
  | events => exact lk_here
  | call => exact lk_here
theorem ref_exm (S : Top K mg) {x : Str} {fs : List (Str × V)} {n : Int} (h : Refuses x fs n) : PySem.W.exmOne K (.ref (He.ga K x)) (.ref (He.ga K "Refusal")) = some true ∧ XfC K (He.ga K x) ∧ PySem.W.findIn K (.ref (He.ga K x)) "number" = some none := by
  cases h with
  | fault m => exact ⟨S.exm 15 rfl, (S.xc 7 rfl).1.xf, (S.xc 7 rfl).2 _ (by simp)⟩
  | events => exact ⟨S.exm 13 rfl, (S.xc 6 rfl).1.xf, (S.xc 6 rfl).2 _ (by simp)⟩
  | bytes => exact ⟨S.exm 5 rfl, (S.xc 2 rfl).1.xf, (S.xc 2 rfl).2 _ (by simp)⟩
  | range => exact ⟨S.exm 7 rfl, (S.xc 3 rfl).1.xf, (S.xc 3 rfl).2 _ (by simp)⟩
  | list => exact ⟨S.exm 9 rfl, (S.xc 4 rfl).1.xf, (S.xc 4 rfl).2 _ (by simp)⟩
  | there => exact ⟨S.exm 11 rfl, (S.xc 5 rfl).1.xf, (S.xc 5 rfl).2 _ (by simp)⟩
  | call => exact ⟨S.exm 3 rfl, (S.xc 1 rfl).1.xf, (S.xc 1 rfl).2 _ (by simp)⟩
theorem ok_answer (S : Top K mg) : Has P w K mg base CX0 "answer" 51 P_answer (sp_answer K) := by
  refine has_of (g_answer S) (fn_answer S) sc_answer bi_answer (fun vs H Q E h => ?_) (fun cdv A outer s H vs Q E hr h => ?_)
  · obtain ⟨r, el, a, z, f, xs, zs, i, x, C, c, rfl, _⟩ := h
    rfl
  obtain ⟨r, el, a, z, f, xs, zs, i, x, C, c, rfl, hi, hc, hL, hx, hz, hRec, hF, kk⟩ := h
  refine ⟨_, (pss_one (ps_try_as (i := 3) (ts := tsAns K) (Wout := fun _ _ _ _ => False) rfl rfl sc_answer.nd rfl rfl ⟨rfl, by decide, Or.inl (g_Refusal S)⟩ takes0
    (fun W pn xe tk _ => pss_cons (ps_if (pt_not (pt_chain op_le op_lt pe_int (pv 1) (pe_callB (cLen K) (by rfl) (n_len S) PySem.boot_len (pa_cons (pe_gr (g_ANSWERERS S) rfl) pa_nil)))) (pss_one (ps_raise rfl tk (pmk_x0 K (ok_NoCall S) (hr.mono (by omega)) rfl))) pss_nil)
      (pss_one (ps_ret (pe_dyn K (C := fun x sp => (x, sp) ∈ cands K) (fun x sp h => (cands_ok S h).elim fun ps F => ⟨50, ps, F, hr.mono (by omega)⟩) tk (pe_ix (ixT K) (pe_gr (g_ANSWERERS S) rfl) (pv 1) (fun _ _ => rfl)) (pa_cons (pv 0) (pa_cons (pv 2) pa_nil))))))
    (fun a oe cls d pn hz hf => ⟨fun pins s σ H D I ⟨C, _, h1, h2, h3⟩ => (pss_one (ps_ret (pe_lst (pa_cons (pe_xf h1 h2 hz hf (pv 3)) pa_nil)))).run pins s σ H D I h3⟩))), ?_⟩
  have htu : ∀ H1, SqT K H1 (He.ga K "ANSWERERS") (rels.map fun c => V.ref (He.ga K c.1)) := fun H1 => by rw [← answerers (K := K)]; exact tu_ANSWERERS S H1
  have hlt : i < 27 := (List.getElem?_eq_some_iff.mp hi).1
  have hat : atI (rels.map fun c => V.ref (He.ga K c.1)) (i : Int) = some (V.ref (He.ga K x)) := atI_nat (by rw [List.getElem?_map, hi]; rfl)
  have hmem : (x, sp_ans K C) ∈ cands K := by
    unfold cands
    exact List.mem_map.mpr ⟨(x, C), List.mem_of_getElem? hi, rfl⟩
  refine q_when (b := false) (et_not (a := true) (et_is (et_test (ev_chain ev_c (ev_var rfl) rv_I0 (fun _ => ev_lenT ev_c htu) fun _ => rv_I0)) ?_)) (fun h => by cases h) fun _ H1 e1 => ?_
  · rw [Bool.and_eq_true, decide_eq_true_eq, decide_eq_true_eq]
    refine ⟨by omega, ?_⟩
    rw [List.length_map]
    show (i : Int) < ((27 : Nat) : Int)
    omega
  refine (ev_op ev_c (ev_var rfl) (rv_ixT (htu H1) hat)) H1 (Ex.refl H1) _ fun H2 e2 => ⟨x, sp_ans K C, rfl, hmem, _, rfl, _, rfl, r, el, a, z, f, xs, zs, c, rfl, hc, (e1.trans e2) _ _ hL, hx, (e1.trans e2) _ _ hz, hRec.ex (rm_mono (e1.trans e2)), hF, fun n hn x' fs hr' d H3 hd e3 hd3 => ?_, fun f' ans hok hF' p el' H3 hp eh hel' hR' h3 => ?_⟩
  · obtain ⟨x1, x2, x3⟩ := ref_exm S hr'
    have ha : after f c = (f, [n]) := by
      unfold after
      rw [hn]
    rw [ha] at kk
    have e13 := (e1.trans e2).trans e3
    refine ⟨true, x1, fun _ b hb' => ⟨_, rfl, x2, x3, ⟨_, rfl, rfl, rfl, d, _, _, rfl, hd3, ref_number hr', (by simp [sizeLine_eq]), fun p hp => ?_⟩⟩, fun hf => by cases hf⟩
    exact kk hF p el _ (fresh_back e13 hp) (Ex.h (e13.trans (Ex.new hp))) (.inl rfl) (hRec.ex (rm_mono (e13.trans (Ex.new hp)))) upd_same
  · have ha : after f c = (f', ans) := by
      unfold after
      rw [hok]
    rw [ha] at kk
    have e12 := e1.trans e2
    exact kk hF' p el' H3 (fresh_back e12 hp) (fun b o n1 n2 hb => eh b o n1 n2 (e12 _ _ hb)) (hel'.imp id fun h => fresh_back e12 h) hR' h3
end
end CK
/-! the flat list of calls, call by call -/
namespace CK
def relOf : Nat → List Int → Vbpxaf.Call → Prop
  | 0 => call0 .clear
  | 1 => callT .file
  | 2 => callT .look
  | 3 => call0 .text
  | 4 => callT .event
  | 5 => call1 .undo
  | 6 => call0 .told
  | 7 => call1 .may
  | 8 => call0 .least
  | 9 => call0 .forbidden
  | 10 => call0 .locks
  | 11 => call0 .keys
  | 12 => callT .scheme
  | 13 => call0 .swings
  | 14 => call0 .power
  | 15 => call0 .idle
  | 16 => call2 .alike
  | 17 => call0 .hinder
  | 18 => call1 .without
  | 19 => call1 .weights
  | 20 => callT .weigh
  | 21 => call0 .trade
  | 22 => callT .rule
  | 23 => callT .compare
  | 24 => call0 .now
  | 25 => call1 .behind
  | 26 => call0 .opened
  | _ => fun _ _ => False
def wl : List Nat := [1, 2, 4, 12, 20, 22, 23]
def wn : List Nat := [5, 7, 18, 19, 25]
def w2 : List Nat := [16]
theorem nil_of {α : Type} {a : List α} (h : 0 = a.length) : a = [] := List.eq_nil_of_length_eq_zero h.symm
theorem one_of' {α : Type} {a : List α} (h : 1 = a.length) : ∃ x, a = [x] := by
  match a, h with
  | [x], _ => exact ⟨x, rfl⟩
theorem two_of {α : Type} {a : List α} (h : 2 = a.length) : ∃ x y, a = [x, y] := by
  match a, h with
  | [x, y], _ => exact ⟨x, y, rfl⟩
def Parts (c : List (List Int)) : Prop := ∃ (p : Nat) (given : List Int) (cl : Vbpxaf.Call), p < 27 ∧ relOf p given cl ∧ Vbpxaf.decode (PyVbpxaf.whole c) = some cl ∧
  ((p ∈ wl ∧ PyFlat.put1 c = (p : Int) :: (given.length : Int) :: given) ∨ (p ∉ wl ∧ PyFlat.put1 c = (p : Int) :: given ∧ given.length = if p ∈ w2 then 2 else if p ∈ wn then 1 else 0)) ∧ (PyInside.call PyVbpxaf.bound c = true → given.length ≤ 2000)
theorem len_of {n m : Nat} {a : List Int} {xs : List (List Int)} {p : Int} (h : PyVbpxaf.shape p = some (a.length, xs.length)) (h2 : PyVbpxaf.shape p = some (n, m)) : n = a.length ∧ m = xs.length := by
  rw [h2] at h
  have := Option.some.inj h
  exact ⟨congrArg Prod.fst this, congrArg Prod.snd this⟩
theorem rows_len {a b : Int} {r : List Int} (h : PyInside.lists [(a, b, 0, 2000)] [r] = true) : r.length ≤ 2000 := by
  unfold PyInside.lists at h
  simp only [Bool.and_eq_true, decide_eq_true_eq] at h
  exact h.1.1.2
theorem parts_of {c : List (List Int)} (h : PyFlat.okCall PyVbpxaf.shape c) : Parts c := by
  obtain ⟨p, a, xs, rfl, hs⟩ := h
  by_cases h0 : p = 0
  · subst h0
    obtain ⟨l1, l2⟩ := len_of (n := 0) (m := 0) hs (by decide +kernel)
    obtain rfl := nil_of l1
    obtain rfl := nil_of l2
    exact ⟨0, [], .clear, by decide, rfl, rfl, .inr ⟨by decide, rfl, by decide⟩, fun _ => by simp⟩
  by_cases h1 : p = 1
  · subst h1
    obtain ⟨l1, l2⟩ := len_of (n := 0) (m := 1) hs (by decide +kernel)
    obtain rfl := nil_of l1
    obtain ⟨x, rfl⟩ := one_of' l2
    refine ⟨1, x, .file x, by decide, rfl, rfl, .inl ⟨by decide, by simp [PyFlat.put1, PyFlat.putRows, PyFlat.putRow]⟩, fun hb => ?_⟩
    have hb1 : (PyInside.each (PyVbpxaf.bound 1).1 [] && PyInside.lists (PyVbpxaf.bound 1).2 [x]) = true := hb
    have hb2 := (Bool.and_eq_true_iff.mp hb1).2
    rw [show (PyVbpxaf.bound 1).2 = [(-9223372036854775808, 9223372036854775807, 0, 2000)] from by decide +kernel] at hb2
    exact rows_len hb2
  by_cases h2 : p = 2
  · subst h2
    obtain ⟨l1, l2⟩ := len_of (n := 0) (m := 1) hs (by decide +kernel)
    obtain rfl := nil_of l1
    obtain ⟨x, rfl⟩ := one_of' l2
    refine ⟨2, x, .look x, by decide, rfl, rfl, .inl ⟨by decide, by simp [PyFlat.put1, PyFlat.putRows, PyFlat.putRow]⟩, fun hb => ?_⟩
    have hb1 : (PyInside.each (PyVbpxaf.bound 2).1 [] && PyInside.lists (PyVbpxaf.bound 2).2 [x]) = true := hb
    have hb2 := (Bool.and_eq_true_iff.mp hb1).2
    rw [show (PyVbpxaf.bound 2).2 = [(-9223372036854775808, 9223372036854775807, 0, 2000)] from by decide +kernel] at hb2
    exact rows_len hb2
  by_cases h3 : p = 3
  · subst h3
    obtain ⟨l1, l2⟩ := len_of (n := 0) (m := 0) hs (by decide +kernel)
    obtain rfl := nil_of l1
    obtain rfl := nil_of l2
    exact ⟨3, [], .text, by decide, rfl, rfl, .inr ⟨by decide, rfl, by decide⟩, fun _ => by simp⟩
  by_cases h4 : p = 4
  · subst h4
    obtain ⟨l1, l2⟩ := len_of (n := 0) (m := 1) hs (by decide +kernel)
    obtain rfl := nil_of l1
    obtain ⟨x, rfl⟩ := one_of' l2
    refine ⟨4, x, .event x, by decide, rfl, rfl, .inl ⟨by decide, by simp [PyFlat.put1, PyFlat.putRows, PyFlat.putRow]⟩, fun hb => ?_⟩
    have hb1 : (PyInside.each (PyVbpxaf.bound 4).1 [] && PyInside.lists (PyVbpxaf.bound 4).2 [x]) = true := hb
    have hb2 := (Bool.and_eq_true_iff.mp hb1).2
    rw [show (PyVbpxaf.bound 4).2 = [(-9223372036854775808, 9223372036854775807, 0, 2000)] from by decide +kernel] at hb2
    exact rows_len hb2
  by_cases h5 : p = 5
  · subst h5
    obtain ⟨l1, l2⟩ := len_of (n := 1) (m := 0) hs (by decide +kernel)
    obtain ⟨x, rfl⟩ := one_of' l1
    obtain rfl := nil_of l2
    exact ⟨5, [x], .undo x, by decide, ⟨x, rfl, rfl⟩, rfl, .inr ⟨by decide, rfl, rfl⟩, fun _ => by simp⟩
  by_cases h6 : p = 6
  · subst h6
    obtain ⟨l1, l2⟩ := len_of (n := 0) (m := 0) hs (by decide +kernel)
    obtain rfl := nil_of l1
    obtain rfl := nil_of l2
    exact ⟨6, [], .told, by decide, rfl, rfl, .inr ⟨by decide, rfl, by decide⟩, fun _ => by simp⟩
  by_cases h7 : p = 7
  · subst h7
    obtain ⟨l1, l2⟩ := len_of (n := 1) (m := 0) hs (by decide +kernel)
    obtain ⟨x, rfl⟩ := one_of' l1
    obtain rfl := nil_of l2
    exact ⟨7, [x], .may x, by decide, ⟨x, rfl, rfl⟩, rfl, .inr ⟨by decide, rfl, rfl⟩, fun _ => by simp⟩
  by_cases h8 : p = 8
  · subst h8
    obtain ⟨l1, l2⟩ := len_of (n := 0) (m := 0) hs (by decide +kernel)
    obtain rfl := nil_of l1
    obtain rfl := nil_of l2
    exact ⟨8, [], .least, by decide, rfl, rfl, .inr ⟨by decide, rfl, by decide⟩, fun _ => by simp⟩
  by_cases h9 : p = 9
  · subst h9
    obtain ⟨l1, l2⟩ := len_of (n := 0) (m := 0) hs (by decide +kernel)
    obtain rfl := nil_of l1
    obtain rfl := nil_of l2
    exact ⟨9, [], .forbidden, by decide, rfl, rfl, .inr ⟨by decide, rfl, by decide⟩, fun _ => by simp⟩
  by_cases h10 : p = 10
  · subst h10
    obtain ⟨l1, l2⟩ := len_of (n := 0) (m := 0) hs (by decide +kernel)
    obtain rfl := nil_of l1
    obtain rfl := nil_of l2
    exact ⟨10, [], .locks, by decide, rfl, rfl, .inr ⟨by decide, rfl, by decide⟩, fun _ => by simp⟩
  by_cases h11 : p = 11
  · subst h11
    obtain ⟨l1, l2⟩ := len_of (n := 0) (m := 0) hs (by decide +kernel)
    obtain rfl := nil_of l1
    obtain rfl := nil_of l2
    exact ⟨11, [], .keys, by decide, rfl, rfl, .inr ⟨by decide, rfl, by decide⟩, fun _ => by simp⟩
  by_cases h12 : p = 12
  · subst h12
    obtain ⟨l1, l2⟩ := len_of (n := 0) (m := 1) hs (by decide +kernel)
    obtain rfl := nil_of l1
    obtain ⟨x, rfl⟩ := one_of' l2
    refine ⟨12, x, .scheme x, by decide, rfl, rfl, .inl ⟨by decide, by simp [PyFlat.put1, PyFlat.putRows, PyFlat.putRow]⟩, fun hb => ?_⟩
    have hb1 : (PyInside.each (PyVbpxaf.bound 12).1 [] && PyInside.lists (PyVbpxaf.bound 12).2 [x]) = true := hb
    have hb2 := (Bool.and_eq_true_iff.mp hb1).2
    rw [show (PyVbpxaf.bound 12).2 = [(-9223372036854775808, 9223372036854775807, 0, 2000)] from by decide +kernel] at hb2
    exact rows_len hb2
  by_cases h13 : p = 13
  · subst h13
    obtain ⟨l1, l2⟩ := len_of (n := 0) (m := 0) hs (by decide +kernel)
    obtain rfl := nil_of l1
    obtain rfl := nil_of l2
    exact ⟨13, [], .swings, by decide, rfl, rfl, .inr ⟨by decide, rfl, by decide⟩, fun _ => by simp⟩
  by_cases h14 : p = 14
  · subst h14
    obtain ⟨l1, l2⟩ := len_of (n := 0) (m := 0) hs (by decide +kernel)
    obtain rfl := nil_of l1
    obtain rfl := nil_of l2
    exact ⟨14, [], .power, by decide, rfl, rfl, .inr ⟨by decide, rfl, by decide⟩, fun _ => by simp⟩
  by_cases h15 : p = 15
  · subst h15
    obtain ⟨l1, l2⟩ := len_of (n := 0) (m := 0) hs (by decide +kernel)
    obtain rfl := nil_of l1
    obtain rfl := nil_of l2
    exact ⟨15, [], .idle, by decide, rfl, rfl, .inr ⟨by decide, rfl, by decide⟩, fun _ => by simp⟩
  by_cases h16 : p = 16
  · subst h16
    obtain ⟨l1, l2⟩ := len_of (n := 2) (m := 0) hs (by decide +kernel)
    obtain ⟨x, y, rfl⟩ := two_of l1
    obtain rfl := nil_of l2
    exact ⟨16, [x, y], .alike x y, by decide, ⟨x, y, rfl, rfl⟩, rfl, .inr ⟨by decide, rfl, rfl⟩, fun _ => by simp⟩
  by_cases h17 : p = 17
  · subst h17
    obtain ⟨l1, l2⟩ := len_of (n := 0) (m := 0) hs (by decide +kernel)
    obtain rfl := nil_of l1
    obtain rfl := nil_of l2
    exact ⟨17, [], .hinder, by decide, rfl, rfl, .inr ⟨by decide, rfl, by decide⟩, fun _ => by simp⟩
  by_cases h18 : p = 18
  · subst h18
    obtain ⟨l1, l2⟩ := len_of (n := 1) (m := 0) hs (by decide +kernel)
    obtain ⟨x, rfl⟩ := one_of' l1
    obtain rfl := nil_of l2
    exact ⟨18, [x], .without x, by decide, ⟨x, rfl, rfl⟩, rfl, .inr ⟨by decide, rfl, rfl⟩, fun _ => by simp⟩
  by_cases h19 : p = 19
  · subst h19
    obtain ⟨l1, l2⟩ := len_of (n := 1) (m := 0) hs (by decide +kernel)
    obtain ⟨x, rfl⟩ := one_of' l1
    obtain rfl := nil_of l2
    exact ⟨19, [x], .weights x, by decide, ⟨x, rfl, rfl⟩, rfl, .inr ⟨by decide, rfl, rfl⟩, fun _ => by simp⟩
  by_cases h20 : p = 20
  · subst h20
    obtain ⟨l1, l2⟩ := len_of (n := 0) (m := 1) hs (by decide +kernel)
    obtain rfl := nil_of l1
    obtain ⟨x, rfl⟩ := one_of' l2
    refine ⟨20, x, .weigh x, by decide, rfl, rfl, .inl ⟨by decide, by simp [PyFlat.put1, PyFlat.putRows, PyFlat.putRow]⟩, fun hb => ?_⟩
    have hb1 : (PyInside.each (PyVbpxaf.bound 20).1 [] && PyInside.lists (PyVbpxaf.bound 20).2 [x]) = true := hb
    have hb2 := (Bool.and_eq_true_iff.mp hb1).2
    rw [show (PyVbpxaf.bound 20).2 = [(-9223372036854775808, 9223372036854775807, 0, 2000)] from by decide +kernel] at hb2
    exact rows_len hb2
  by_cases h21 : p = 21
  · subst h21
    obtain ⟨l1, l2⟩ := len_of (n := 0) (m := 0) hs (by decide +kernel)
    obtain rfl := nil_of l1
    obtain rfl := nil_of l2
    exact ⟨21, [], .trade, by decide, rfl, rfl, .inr ⟨by decide, rfl, by decide⟩, fun _ => by simp⟩
  by_cases h22 : p = 22
  · subst h22
    obtain ⟨l1, l2⟩ := len_of (n := 0) (m := 1) hs (by decide +kernel)
    obtain rfl := nil_of l1
    obtain ⟨x, rfl⟩ := one_of' l2
    refine ⟨22, x, .rule x, by decide, rfl, rfl, .inl ⟨by decide, by simp [PyFlat.put1, PyFlat.putRows, PyFlat.putRow]⟩, fun hb => ?_⟩
    have hb1 : (PyInside.each (PyVbpxaf.bound 22).1 [] && PyInside.lists (PyVbpxaf.bound 22).2 [x]) = true := hb
    have hb2 := (Bool.and_eq_true_iff.mp hb1).2
    rw [show (PyVbpxaf.bound 22).2 = [(-9223372036854775808, 9223372036854775807, 0, 2000)] from by decide +kernel] at hb2
    exact rows_len hb2
  by_cases h23 : p = 23
  · subst h23
    obtain ⟨l1, l2⟩ := len_of (n := 0) (m := 1) hs (by decide +kernel)
    obtain rfl := nil_of l1
    obtain ⟨x, rfl⟩ := one_of' l2
    refine ⟨23, x, .compare x, by decide, rfl, rfl, .inl ⟨by decide, by simp [PyFlat.put1, PyFlat.putRows, PyFlat.putRow]⟩, fun hb => ?_⟩
    have hb1 : (PyInside.each (PyVbpxaf.bound 23).1 [] && PyInside.lists (PyVbpxaf.bound 23).2 [x]) = true := hb
    have hb2 := (Bool.and_eq_true_iff.mp hb1).2
    rw [show (PyVbpxaf.bound 23).2 = [(-9223372036854775808, 9223372036854775807, 0, 2000)] from by decide +kernel] at hb2
    exact rows_len hb2
  by_cases h24 : p = 24
  · subst h24
    obtain ⟨l1, l2⟩ := len_of (n := 0) (m := 0) hs (by decide +kernel)
    obtain rfl := nil_of l1
    obtain rfl := nil_of l2
    exact ⟨24, [], .now, by decide, rfl, rfl, .inr ⟨by decide, rfl, by decide⟩, fun _ => by simp⟩
  by_cases h25 : p = 25
  · subst h25
    obtain ⟨l1, l2⟩ := len_of (n := 1) (m := 0) hs (by decide +kernel)
    obtain ⟨x, rfl⟩ := one_of' l1
    obtain rfl := nil_of l2
    exact ⟨25, [x], .behind x, by decide, ⟨x, rfl, rfl⟩, rfl, .inr ⟨by decide, rfl, rfl⟩, fun _ => by simp⟩
  by_cases h26 : p = 26
  · subst h26
    obtain ⟨l1, l2⟩ := len_of (n := 0) (m := 0) hs (by decide +kernel)
    obtain rfl := nil_of l1
    obtain rfl := nil_of l2
    exact ⟨26, [], .opened, by decide, rfl, rfl, .inr ⟨by decide, rfl, by decide⟩, fun _ => by simp⟩
  exfalso
  unfold PyVbpxaf.shape at hs
  simp only [if_neg h0, if_neg h1, if_neg h2, if_neg h3, if_neg h4, if_neg h5, if_neg h6, if_neg h7, if_neg h8, if_neg h9, if_neg h10, if_neg h11, if_neg h12, if_neg h13, if_neg h14, if_neg h15, if_neg h16, if_neg h17, if_neg h18, if_neg h19, if_neg h20, if_neg h21, if_neg h22, if_neg h23, if_neg h24, if_neg h25, if_neg h26] at hs
  cases hs
end CK
/-! chest.py -/
namespace CK
open PySem PySem.Spec PyProof.Rows L2 Evl
open Vbpxaf (bit count opens File nameOf Now mayBe done acting may W now put readFile run fileText)
section
variable {P : Program} {w : World} {K : PySem.W.Frag} {mg : Str → Option Value} {base : Heap}
theorem inV_nats (p : Nat) (l : List Nat) : inV (.int (p : Int)) (nats l) = decide (p ∈ l) := by
  unfold inV nats
  rw [List.any_map, Bool.eq_iff_iff, List.any_eq_true, decide_eq_true_eq]
  constructor
  · rintro ⟨x, hx, h⟩
    have h' : ((x : Int) == (p : Int)) = true := h
    have : x = p := by
      have := beq_iff_eq.mp h'
      omega
    rw [← this]
    exact hx
  · intro h
    exact ⟨p, h, beq_self_eq_true (p : Int)⟩
theorem nats_flat (l : List Nat) : (nats l).all flatV = true := by
  unfold nats
  rw [List.all_map, List.all_eq_true]
  intro x _
  rfl
theorem et_in {σ : L2.St} {H : Hp} {te tc : TE} {p : Nat} {l : List Nat} {t : Addr} (h : Ev te σ H (.int (p : Int))) (hc : Ev tc σ H (.ref t)) (ht : ∀ H1, SqT K H1 t (nats l)) : EvT (tTest (tOp (rIn K false) te tc)) σ H (decide (p ∈ l)) :=
  et_is (et_test (ev_op h hc (rv_isT (ht H) rfl (nats_flat l)))) (inV_nats p l)
theorem ints_ix {l : List Int} {i : Nat} {n : Int} (h : l[i]? = some n) : atI (intsV l) (i : Int) = some (.int n) := atI_nat (by unfold intsV; rw [List.getElem?_map, h]; rfl)
theorem tw_list (S : Top K mg) (H : Hp) : SqT K H (He.ga K "WITH_LIST") (nats wl) := tu_WITH_LIST S H
theorem tw_num (S : Top K mg) (H : Hp) : SqT K H (He.ga K "WITH_NUMBER") (nats wn) := tu_WITH_NUMBER S H
theorem tw_two (S : Top K mg) (H : Hp) : SqT K H (He.ga K "WITH_TWO_NUMBERS") (nats w2) := tu_WITH_TWO_NUMBERS S H
def ahd (p : Nat) : Nat := if p ∈ wl then 2 else 1
def sp_where_given (K : PySem.W.Frag) : Sp := fun vs H Q _ => ∃ (a : Addr) (l : List Int) (i p : Nat), vs = [.ref a, .int (i : Int)] ∧ SqL K H a (intsV l) ∧ l[i]? = some (p : Int) ∧ RetV (.int ((i + ahd p : Nat) : Int)) H Q
theorem ok_where_given (S : Top K mg) : Has P w K mg base CX0 "where_given" 1 P_where_given (sp_where_given K) := by
  refine has_of (g_where_given S) (fn_where_given S) sc_where_given bi_where_given (fun vs H Q E h => ?_) (fun cdv A outer s H vs Q E hr h => ?_)
  · obtain ⟨a, l, i, p, rfl, _⟩ := h
    rfl
  · obtain ⟨a, l, i, p, rfl, hL, hp, kk⟩ := h
    refine ⟨_, (pss_one (ps_ret (pe_ifExp (pt_cmpR (inS K) (pe_ix (ixL K) (pv 0) (pv 1) (fun _ _ => rfl)) (pe_gr (g_WITH_LIST S) rfl) (by rfl)) (pe_op op_add (pv 1) pe_int) (pe_op op_add (pv 1) pe_int)))), ?_⟩
    refine s_ret (ev_if (b := decide (p ∈ wl)) (et_in (ev_op (ev_var rfl) (ev_var rfl) (rv_ixL hL (ints_ix hp))) ev_c (tw_list S)) (fun hb => ?_) fun hb => ?_) kk
    · have e : ahd p = 2 := if_pos (of_decide_eq_true hb)
      rw [e]
      exact ev_op (ev_var rfl) ev_c rv_I0
    · have e : ahd p = 1 := if_neg (of_decide_eq_false hb)
      rw [e]
      exact ev_op (ev_var rfl) ev_c rv_I0
def sp_how_given (K : PySem.W.Frag) : Sp := fun vs H Q _ => ∃ (a : Addr) (l : List Int) (i p n : Nat), vs = [.ref a, .int (i : Int)] ∧ SqL K H a (intsV l) ∧ l[i]? = some (p : Int) ∧ (p ∈ wl → l[i + 1]? = some (n : Int)) ∧ (p ∉ wl → n = if p ∈ w2 then 2 else if p ∈ wn then 1 else 0) ∧ RetV (.int (n : Int)) H Q
theorem ok_how_many_given (S : Top K mg) : Has P w K mg base CX0 "how_many_given" 1 P_how_many_given (sp_how_given K) := by
  refine has_of (g_how_many_given S) (fn_how_many_given S) sc_how_many_given bi_how_many_given (fun vs H Q E h => ?_) (fun cdv A outer s H vs Q E hr h => ?_)
  · obtain ⟨a, l, i, p, n, rfl, _⟩ := h
    rfl
  · obtain ⟨a, l, i, p, n, rfl, hL, hp, h1, h2, kk⟩ := h
    refine ⟨_, (pss_cons (ps_set (i := 2) sc_how_many_given.nd rfl (Or.inl rfl) (pe_ix (ixL K) (pv 0) (pv 1) (fun _ _ => rfl)))
      (pss_cons (ps_if (pt_cmpR (inS K) (pv 2) (pe_gr (g_WITH_LIST S) rfl) (by rfl))
      (pss_one (ps_ret (pe_ix (ixL K) (pv 0) (pe_op op_add (pv 1) pe_int) (fun _ _ => rfl)))) pss_nil)
      (pss_cons (ps_if (pt_cmpR (inS K) (pv 2) (pe_gr (g_WITH_TWO_NUMBERS S) rfl) (by rfl))
      (pss_one (ps_ret pe_int)) pss_nil)
      (pss_one (ps_ret (pe_ifExp (pt_cmpR (inS K) (pv 2) (pe_gr (g_WITH_NUMBER S) rfl) (by rfl)) pe_int pe_int)))))), ?_⟩
    refine q_asg (ev_op (ev_var rfl) (ev_var rfl) (rv_ixL hL (ints_ix hp))) fun H1 e1 => ?_
    refine q_when (et_in (ev_var rfl) ev_c (tw_list S)) (fun hb H2 e2 => ?_) fun hb H2 e2 => ?_
    · have e12 := e1.trans e2
      exact s_ret (ev_op (ev_var rfl) (ev_is (ev_op (ev_var rfl) ev_c rv_I0) rfl) (rv_ixL (ex_l e12 hL) (ints_ix (h1 (of_decide_eq_true hb))))) fun H3 e3 => kk H3 (e12.trans e3)
    have hn := h2 (of_decide_eq_false hb)
    refine q_when (et_in (ev_var rfl) ev_c (tw_two S)) (fun hb2 H3 e3 => ?_) fun hb2 H3 e3 => ?_
    · rw [if_pos (of_decide_eq_true hb2)] at hn
      subst hn
      exact s_ret ev_c fun H4 e4 => kk H4 (((e1.trans e2).trans e3).trans e4)
    rw [if_neg (of_decide_eq_false hb2)] at hn
    refine s_ret (ev_if (b := decide (p ∈ wn)) (et_in (ev_var rfl) ev_c (tw_num S)) (fun hb3 => ?_) fun hb3 => ?_) fun H4 e4 => kk H4 (((e1.trans e2).trans e3).trans e4)
    · rw [if_pos (of_decide_eq_true hb3)] at hn
      subst hn
      exact ev_c
    · rw [if_neg (of_decide_eq_false hb3)] at hn
      subst hn
      exact ev_c
/-! ### the list of calls -/
theorem cut_ints (l : List Int) {i j : Nat} (hi : i ≤ j) (hj : j ≤ l.length) : cutV (intsV l) (some (i : Int)) (some (j : Int)) = intsV ((l.drop i).take (j - i)) := by
  unfold cutV
  rw [HT.sIx_nat, HT.sIx_nat, intsV_len, Nat.min_eq_left (show i ≤ l.length by omega), Nat.min_eq_left hj]
  unfold intsV
  rw [List.map_take, List.map_drop]
/-- the machine's own step is the one of the calls -/
theorem step_eq {f : File} {c : List (List Int)} {cl : Vbpxaf.Call} (h : Vbpxaf.decode (PyVbpxaf.whole c) = some cl) : VbpxafNeutral.step f (PyVbpxaf.whole c) = after f cl := by
  unfold VbpxafNeutral.step Vbpxaf.step after
  rw [h]
  dsimp only
  cases Vbpxaf.run f cl <;> rfl
def allIn (n : Nat) (c : List (List Int)) : Prop := ∀ p r xs, c = (p :: r) :: xs → p < (n : Int)
/-- what is answered to the calls cs, from the file f -/
def ansOf (f : File) (cs : List (List (List Int))) : List Int := PyFlat.told (PyFlat.played VbpxafNeutral.step f (cs.map PyVbpxaf.whole))
theorem ansOf_cons {f : File} {c : List (List Int)} {cs : List (List (List Int))} {cl : Vbpxaf.Call} (h : Vbpxaf.decode (PyVbpxaf.whole c) = some cl) : ansOf f (c :: cs) = ((after f cl).2.length : Int) :: ((after f cl).2 ++ ansOf (after f cl).1 cs) := by
  unfold ansOf
  show PyFlat.told ((VbpxafNeutral.step f (PyVbpxaf.whole c)).2 :: PyFlat.played VbpxafNeutral.step (VbpxafNeutral.step f (PyVbpxaf.whole c)).1 (cs.map PyVbpxaf.whole)) = _
  rw [step_eq h]
  unfold PyFlat.told
  rw [List.flatMap_cons]
  rfl
/-- a call that one of the defs answers -/
def Fit (c : List (List Int)) : Prop := ∃ (p : Nat) (given : List Int) (cl : Vbpxaf.Call) (x : Str), rels[p]? = some (x, relOf p) ∧ relOf p given cl ∧ Vbpxaf.decode (PyVbpxaf.whole c) = some cl ∧
  ((p ∈ wl ∧ PyFlat.put1 c = (p : Int) :: (given.length : Int) :: given) ∨ (p ∉ wl ∧ PyFlat.put1 c = (p : Int) :: given ∧ given.length = if p ∈ w2 then 2 else if p ∈ wn then 1 else 0)) ∧ given.length ≤ 2000
/-- l.extend(m) -/
theorem q_ext {σ : L2.St} {H : Hp} {D : Ends} {tz : TS} {ta te : TE} {l b : Addr} {xs ys : List V} (hl : H l = some (.lst xs)) (hb : H b = some (.lst ys)) (ha : Ev ta σ H (.ref l)) (he : Ev te σ H (.ref b)) (hz : xs.length + ys.length ≤ 16777216)
    (k : ∀ H1, Ex H H1 → tz D σ (upd H1 l (.lst (xs ++ ys)))) : tSeq (tDrop (tBM K "list" rExtend ta (tCons te tNil))) tz D σ H :=
  ha H (Ex.refl H) _ fun H1 e1 => ⟨.inl ⟨rfl, xs, sq_of (e1 l _ hl)⟩, he H1 e1 _ fun H2 e2 => ⟨l, b, xs, ys, rfl, rfl, (e1.trans e2) _ _ hl, (e1.trans e2) _ _ hb, by rw [sizeLine_eq]; exact hz, k H2 (e1.trans e2)⟩⟩
def sp_answers (K : PySem.W.Frag) : Sp := fun vs H Q _ => ∃ (a : Addr) (l : List Int) (cs : List (List (List Int))), vs = [.ref a] ∧ SqL K H a (intsV l) ∧ l = PyFlat.put cs ∧ (∀ c ∈ cs, Fit c) ∧ (ansOf Vbpxaf.start cs).length ≤ 10000000 ∧ RetL (intsV (ansOf Vbpxaf.start cs)) H Q
theorem rm_same {H : Hp} {z : Addr} {o : HO} : rm (upd H z o) z z = rm H z z := by
  funext b
  unfold rm
  split
  · rfl
  · rename_i h
    exact upd_ne fun e => h (.inl e)
theorem put_app : ∀ (a b : List (List (List Int))), PyFlat.put (a ++ b) = PyFlat.put a ++ PyFlat.put b
  | [], _ => rfl
  | c :: r, b => by
    show PyFlat.put1 c ++ PyFlat.put (r ++ b) = PyFlat.put1 c ++ PyFlat.put r ++ PyFlat.put b
    rw [put_app r b, List.append_assoc]
theorem answers_body (S : Top K mg) (cdv : Value) (A : Around) (outer : List Env) (s : Shared) (H : Hp) (vs : List V) (Q : VK) (E : XK) (hr : Room 51 (A.deeper (envOfC "answers" (defScope s_answers) s.heap.objs.size (He.ga K "answers") cdv))) (h : sp_answers K vs H Q E) :
    ∃ t, PSs (cxOf CX0 P w K mg base N_answers "answers" (defScope s_answers) (He.ga K "answers") cdv A outer s H E).nox (defBody s_answers) t ∧ t { nx := fun _ H' => Q .non H', rt := Q } (start N_answers vs) H := by
  obtain ⟨a, l, cs, rfl, hL, hl, hfit, hsz, kk⟩ := h
  refine ⟨_, (pss_cons (ps_set (i := 1) sc_answers.nd rfl (Or.inl rfl) (pe_h0 (ok_new_record S) (hr.mono (by omega)) rfl))
      (pss_cons (ps_set (i := 2) sc_answers.nd rfl (Or.inl rfl) (pe_lst pa_nil))
      (pss_cons (ps_set (i := 3) sc_answers.nd rfl (Or.inl rfl) pe_int)
      (pss_cons (ps_while PassesOwn.never (pt_cmpR op_lt (pv 3) (pe_callB (cLen K) (by rfl) (n_len S) PySem.boot_len (pa_cons (pv 0) pa_nil)) (nomark _))
      (pss_cons (ps_set (i := 4) sc_answers.nd rfl (Or.inl rfl) (pe_h (ok_where_given S) (hr.mono (by omega)) rfl (pa_cons (pv 0) (pa_cons (pv 3) pa_nil))))
      (pss_cons (ps_set (i := 5) sc_answers.nd rfl (Or.inl rfl) (pe_op op_add (pv 4) (pe_h (ok_how_many_given S) (hr.mono (by omega)) rfl (pa_cons (pv 0) (pa_cons (pv 3) pa_nil)))))
      (pss_cons (ps_set (i := 6) sc_answers.nd rfl (Or.inl rfl) (pe_h (ok_answer S) (hr.mono (by omega)) rfl (pa_cons (pv 1) (pa_cons (pe_ix (ixL K) (pv 0) (pv 3) (fun _ _ => rfl)) (pa_cons (pe_slice (slL K) (pv 0) (po_some (pv 4)) (po_some (pv 5))) pa_nil)))))
      (pss_cons (ps_expr (pe_bmK K PySem.F.plainAttrs_list PySem.F.slot_list_append PySem.F.type_list_append mt_append (pv 2) (pa_cons (pe_callB (cLen K) (by rfl) (n_len S) PySem.boot_len (pa_cons (pv 6) pa_nil)) pa_nil)))
      (pss_cons (ps_expr (pe_bmK K PySem.F.plainAttrs_list PySem.F.slot_list_extend PySem.F.type_list_extend mt_extend (pv 2) (pa_cons (pv 6) pa_nil)))
      (pss_one (ps_set (i := 3) sc_answers.nd rfl (Or.inl rfl) (pv 5)))))))))
      (pss_one (ps_ret (pv 2))))))), ?_⟩
  refine q_set ⟨rfl, fun r el H1 hr0 hel0 e1 hR1 _ => ?_⟩
  refine q_asgL (el_lst ea_nil (by simp)) fun an H2 han e2 h2 => ?_
  have hanH : H an = none := fresh_back e1 han
  refine q_asg (v := .int 0) ev_c fun H3 e3 => ?_
  have e13 := (e1.trans e2).trans e3
  have hR3 : RecordAt K (rm H3 an an) r el Vbpxaf.start := hR1.ex fun b o hb => rm_of (ne_of_none hb han) (ne_of_none hb han) (e3 _ _ (e2 _ _ hb))
  refine q_while (fun m σ' H' => ∃ (dn rest : List (List (List Int))) (f : File) (el' : Addr) (v4 v5 v6 : Option V) (ans : List Int), σ' = [some (.ref a), some (.ref r), some (.ref an), some (.int ((PyFlat.put dn).length : Int)), v4, v5, v6] ∧ m = rest.length ∧ cs = dn ++ rest ∧ Ex H H' ∧ H el' = none ∧ FileOk f ∧ RecordAt K (rm H' an an) r el' f ∧ H' an = some (.lst (intsV ans)) ∧ ansOf Vbpxaf.start cs = ans ++ ansOf f rest) cs.length
    ⟨[], cs, Vbpxaf.start, el, none, none, none, [], rfl, rfl, rfl, e13, hel0, start_ok, hR3, e3 _ _ h2, rfl⟩ ?_
  rintro m σ' H' ⟨dn, rest, f, el', v4, v5, v6, ans, rfl, rfl, hcs, eH, hel', hF, hRec, han', hans⟩
  have hl' : l = PyFlat.put dn ++ PyFlat.put rest := by rw [hl, hcs, put_app]
  have hLH := ex_l eH hL
  refine ⟨decide ((PyFlat.put dn).length < l.length), et_is (et_test (ev_op (ev_var rfl) (ev_len (ev_var rfl) hLH) rv_I0)) (by rw [intsV_len]; exact decide_eq_decide.mpr (by omega)), fun hb H4 e4 => ?_, fun hb H4 e4 => ?_⟩
  · have hlt := of_decide_eq_true hb
    cases rest with
    | nil =>
      rw [hl'] at hlt
      simp [PyFlat.put] at hlt
    | cons c rest =>
      obtain ⟨p, given, cl, x, hrel, hC, hdec, hput, hg2⟩ := hfit c (by rw [hcs]; simp)
      obtain ⟨pre, hpre, hprel, hpre0, hpre1⟩ : ∃ pre : List Int, PyFlat.put1 c = pre ++ given ∧ pre.length = ahd p ∧ pre[0]? = some (p : Int) ∧ (p ∈ wl → pre[1]? = some (given.length : Int)) := by
        rcases hput with ⟨hw, h⟩ | ⟨hw, h, _⟩
        · exact ⟨[(p : Int), (given.length : Int)], h, (if_pos hw).symm, rfl, fun _ => rfl⟩
        · exact ⟨[(p : Int)], h, (if_neg hw).symm, rfl, fun z => absurd z hw⟩
      have hglen : p ∉ wl → given.length = if p ∈ w2 then 2 else if p ∈ wn then 1 else 0 := fun hw => by
        rcases hput with ⟨hw', _⟩ | ⟨_, _, h⟩
        · exact absurd hw' hw
        · exact h
      have hle : l = PyFlat.put dn ++ (pre ++ (given ++ PyFlat.put rest)) := by
        rw [hl']
        show PyFlat.put dn ++ (PyFlat.put1 c ++ PyFlat.put rest) = _
        rw [hpre, List.append_assoc]
      have hdone : (PyFlat.put (dn ++ [c])).length = (PyFlat.put dn).length + ahd p + given.length := by
        rw [put_app, List.length_append]
        show _ + (PyFlat.put1 c ++ []).length = _
        rw [List.append_nil, hpre, List.length_append, hprel]
        omega
      have hp1 : 1 ≤ ahd p := by
        unfold ahd
        split <;> omega
      have hip : l[(PyFlat.put dn).length]? = some (p : Int) := by
        rw [hle, List.getElem?_append_right (Nat.le_refl _), Nat.sub_self, List.getElem?_append_left (by omega)]
        exact hpre0
      have hip1 : p ∈ wl → l[(PyFlat.put dn).length + 1]? = some (given.length : Int) := fun hw => by
        have h2 : ahd p = 2 := if_pos hw
        rw [hle, List.getElem?_append_right (by omega), List.getElem?_append_left (by omega), Nat.add_sub_cancel_left]
        exact hpre1 hw
      have hcut : (l.drop ((PyFlat.put dn).length + ahd p)).take given.length = given := by
        rw [hle, ← List.append_assoc, List.drop_left' (by rw [List.length_append, hprel]), List.take_left' rfl]
      have hfull : (PyFlat.put dn).length + ahd p + given.length ≤ l.length := by
        rw [hle]
        simp only [List.length_append]
        omega
      have hanlen : ans.length ≤ 10000000 := by
        rw [hans, List.length_append] at hsz
        omega
      have hans2 := hans.trans (by rw [ansOf_cons hdec])
      have hsum : ans.length + (1 + (after f cl).2.length) ≤ 10000000 := by
        rw [hans2] at hsz
        simp only [List.length_append, List.length_cons] at hsz
        omega
      refine ⟨fun σ2 HH => ∃ (f2 : File) (el2 : Addr) (v4 v5 v6 : Option V) (ans2 : List Int), σ2 = [some (.ref a), some (.ref r), some (.ref an), some (.int ((PyFlat.put (dn ++ [c])).length : Int)), v4, v5, v6] ∧ Ex H HH ∧ H el2 = none ∧ FileOk f2 ∧ RecordAt K (rm HH an an) r el2 f2 ∧ HH an = some (.lst (intsV ans2)) ∧ ansOf Vbpxaf.start cs = ans2 ++ ansOf f2 rest, ?_, ?_⟩
      · rintro σ2 HH ⟨f2, el2, v4, v5, v6, ans2, rfl, g1, g2, g3, g4, g5, g6⟩
        exact ⟨rest.length, by simp, dn ++ [c], rest, f2, el2, v4, v5, v6, ans2, rfl, rfl, by rw [hcs]; simp, g1, g2, g3, g4, g5, g6⟩
      · have eH4 := eH.trans e4
        refine q_asg (v := .int (((PyFlat.put dn).length + ahd p : Nat) : Int)) (ev_h (ea_cons (ev_var rfl) (ea_cons (ev_var rfl) ea_nil)) fun H5 e5 Q E q => ⟨a, l, _, p, rfl, ex_l (eH4.trans e5) hL, hip, q⟩) fun H5 e5 => ?_
        have eH5 := eH4.trans e5
        refine q_asg (v := .int (((PyFlat.put dn).length + ahd p + given.length : Nat) : Int)) (ev_is (ev_op (ev_var rfl) (ev_h (ea_cons (ev_var rfl) (ea_cons (ev_var rfl) ea_nil)) fun H6 e6 Q E q => ⟨a, l, _, p, given.length, rfl, ex_l (eH5.trans e6) hL, hip, hip1, hglen, q⟩) rv_I0) (by rw [Int.natCast_add ((PyFlat.put dn).length + ahd p)])) fun H6 e6 => ?_
        have eH6 := eH5.trans e6
        refine q_set ⟨_, rfl, (ev_op (ev_var rfl) (ev_var rfl) (rv_ixL (ex_l eH6 hL) (ints_ix hip))) H6 (Ex.refl H6) _ fun H7 e7 => (el_is (el_sl (ev_var rfl) (eo_some (ev_var rfl)) (eo_some (ev_var rfl)) (ex_l (eH6.trans e7) hL)) (cut_ints l (by omega) hfull)) H7 (Ex.refl H7) _ fun b H8 hb8 e8 h8 => ?_⟩
        have eH8 := (eH6.trans e7).trans e8
        have e48 := ((((e4.trans e5).trans e6).trans e7).trans e8)
        rw [show (PyFlat.put dn).length + ahd p + given.length - ((PyFlat.put dn).length + ahd p) = given.length by omega, hcut] at h8
        have hRec8 := hRec.ex (rm_mono e48)
        obtain ⟨dr, nl, ru, hr8, hN8, hRu8, ⟨ps8, hel8, hps8⟩, hne8⟩ := id hRec8
        have ranE := (rm_at hr8).1
        have elan := (rm_at hel8).1
        refine ⟨r, el', b, an, f, given, ans, p, x, relOf p, cl, rfl, hrel, hC, h8, hg2, e48 _ _ han', hRec8, hF, fun hF' pp el2 H9 hpp eh hel2 hR9 h9 => ?_⟩
        have eH9 : Ex H H9 := fun b o hb => eh b o (ne_of_none hb hr0) (ne_of_none hb hel') (eH8 _ _ hb)
        have han9 : H9 an = some (.lst (intsV ans)) := eh _ _ (Ne.symm ranE) (Ne.symm elan) (e48 _ _ han')
        have hppan : pp ≠ an := fun z => by rw [z, e48 _ _ han'] at hpp; cases hpp
        have hel2H : H el2 = none := by
          rcases hel2 with rfl | h
          · exact hel'
          · exact fresh_back eH8 h
        refine q_appX han9 (ev_var rfl) fun H10 e10 => (ev_len (ev_var rfl) (sq_of (e10 _ _ h9))) H10 (Ex.refl H10) _ fun H11 e11 => ⟨an, intsV ans, _, rfl, rfl, (e10.trans e11) _ _ han9, ?_, ?_⟩
        · rw [intsV_len, sizeLine_eq]
          omega
        have e911 := e10.trans e11
        refine q_ext upd_same (by rw [upd_ne hppan]; exact e911 _ _ h9) (ev_var rfl) (ev_var rfl) ?_ fun H12 e12 => ?_
        · rw [List.length_append, intsV_len, intsV_len]
          simp only [List.length_cons, List.length_nil]
          omega
        refine s_asg (ev_var rfl) fun H13 e13' => ?_
        refine ⟨(after f cl).1, el2, _, _, _, ans ++ (((after f cl).2.length : Int) :: (after f cl).2), by rw [hdone]; rfl, fun b o hb => e13' _ _ ?_, hel2H, hF', ?_, ?_, ?_⟩
        · rw [upd_ne (ne_of_none hb hanH)]
          refine e12 _ _ ?_
          rw [upd_ne (ne_of_none hb hanH)]
          exact e911 _ _ (eH9 _ _ hb)
        · refine RecordAt.ex (H := rm H12 an an) (RecordAt.ex (H := rm H11 an an) (hR9.ex (rm_mono e911)) ?_) ?_
          · have := rm_mono (h := an) (l := an) e12
            rw [rm_same] at this
            exact this
          · have := rm_mono (h := an) (l := an) e13'
            rw [rm_same] at this
            exact this
        · rw [e13' _ _ upd_same, intsV_len]
          simp [intsV]
        · rw [hans2]
          simp
  · have hge := of_decide_eq_false hb
    cases rest with
    | nil =>
      have hans' : ansOf Vbpxaf.start cs = ans := by
        rw [hans]
        exact List.append_nil _
      rw [hans'] at kk
      refine s_ret (ev_var rfl) fun H5 e5 => kk an H5 hanH (eH.trans (e4.trans e5)) ((e4.trans e5) _ _ han')
    | cons c rest =>
      exfalso
      obtain ⟨p, given, cl, x, hrel, hC, hdec, hput, hg2⟩ := hfit c (by rw [hcs]; simp)
      apply hge
      rw [hl', List.length_append]
      have : (PyFlat.put (c :: rest)).length = (PyFlat.put1 c).length + (PyFlat.put rest).length := List.length_append
      rw [this]
      rcases hput with ⟨_, h⟩ | ⟨_, h, _⟩
      · rw [h]
        simp
        omega
      · rw [h]
        simp
        omega
theorem ok_answers (S : Top K mg) : ∃ fd : FuncData, (∀ (s : Shared) (us : List Value), us.length = P_answers.length → BindsTo s fd ⟨us, []⟩ (P_answers.zip us)) ∧ ∀ base : Heap, FnOk P w K mg base CX0 52 (He.ga K "answers") fd P_answers (sp_answers K) := by
  obtain ⟨fd, F⟩ := fn_answers S
  refine ⟨fd, fun s us hl => F.bindsA bi_answers s us hl, fun base => F.ok sc_answers (fun vs H Q E h => ?_) fun cdv A outer s H vs Q E hr h => ?_⟩
  · obtain ⟨a, l, cs, rfl, _⟩ := h
    rfl
  · obtain ⟨t, h1, h2⟩ := answers_body (P := P) (w := w) (base := base) S cdv A outer s H vs Q E hr h
    exact ⟨t, h1.nox, h2⟩
end
end CK
namespace CK
open PySem PySem.W PySem.Spec PyProof.Rows L2
theorem fits (hrels : ∀ p, p < 27 → ∃ x, rels[p]? = some (x, relOf p)) {l : List Int} {cs : List (List (List Int))} (h : PyFlat.calls PyVbpxaf.shape l.length l = some cs) (hb : PyInside.calls PyVbpxaf.bound cs = true) : l = PyFlat.put cs ∧ ∀ c ∈ cs, Fit c := by
  obtain ⟨h1, h2⟩ := PyFlat.put_calls _ _ _ h
  refine ⟨h1, fun c hc => ?_⟩
  obtain ⟨p, given, cl, hp, hrel, hdec, hput, hlen⟩ := parts_of (h2 c hc)
  obtain ⟨x, hx⟩ := hrels p hp
  exact ⟨p, given, cl, x, hx, hrel, hdec, hput, hlen (List.all_eq_true.mp hb c hc)⟩
theorem asked_in (hrels : ∀ p, p < 27 → ∃ x, rels[p]? = some (x, relOf p)) {l : List Int} (h : PyVbpxaf.answers_asked l = true) : ∃ cs, l = PyFlat.put cs ∧ (∀ c ∈ cs, Fit c) ∧ PyVbpxaf.answers l = ansOf Vbpxaf.start cs ∧ (ansOf Vbpxaf.start cs).length ≤ 10000000 := by
  unfold PyVbpxaf.answers_asked at h
  cases hc : PyFlat.calls PyVbpxaf.shape l.length l with
  | none =>
    rw [hc] at h
    cases h
  | some cs =>
    rw [hc] at h
    dsimp only at h
    simp only [Bool.and_eq_true] at h
    obtain ⟨h1, h2⟩ := fits hrels hc h.1.1.2
    have ha : PyVbpxaf.answers l = ansOf Vbpxaf.start cs := by
      unfold PyVbpxaf.answers PyVbpxaf.calls
      rw [hc]
      rfl
    refine ⟨cs, h1, h2, ha, ?_⟩
    have h3 := h.2
    unfold PyFlat.short at h3
    rw [← ha]
    exact of_decide_eq_true h3
theorem law_of (hrels : ∀ p, p < 27 → ∃ x, rels[p]? = some (x, relOf p)) : Rw.Holds := by
  refine holds_by (k := 52) (CX := CX0) (sp := sp_answers) ⟨rfl, by decide, by decide⟩ (fun w mg fa h K KX c G hmg => ?_) (fun K H xs a hO hwi hask hx => ?_) (fun _ _ _ _ z => z)
  · have S : Top K mg := ⟨c, h, KX, G⟩
    have e : fa = He.ga K "answers" := by
      have := hmg.symm.trans (g_answers S)
      injection this with this
      injection this
    subst e
    obtain ⟨fd, b, F⟩ := ok_answers (P := Rw.prog) (w := w) S
    exact ⟨fd, b, fun base _ _ => F base⟩
  · cases hx with
    | cons h1 h2 =>
      cases h2
      cases h1 with
      | lst hs ha =>
        have e := L2.ints_dw a.1 _ ha
        subst e
        obtain ⟨cs, c1, c2, c3, c4⟩ := asked_in hrels (l := a.1) hask
        refine ⟨_, a.1, cs, rfl, hs, c1, c2, c4, fun p H2 hp e2 h2 => ?_⟩
        rw [← c3] at h2
        exact .lst (L2.SqL.of h2) (L2.dw_ints _)
theorem rels_all : ∀ p, p < 27 → ∃ x, rels[p]? = some (x, relOf p)
  | 0, _ => ⟨_, rfl⟩
  | 1, _ => ⟨_, rfl⟩
  | 2, _ => ⟨_, rfl⟩
  | 3, _ => ⟨_, rfl⟩
  | 4, _ => ⟨_, rfl⟩
  | 5, _ => ⟨_, rfl⟩
  | 6, _ => ⟨_, rfl⟩
  | 7, _ => ⟨_, rfl⟩
  | 8, _ => ⟨_, rfl⟩
  | 9, _ => ⟨_, rfl⟩
  | 10, _ => ⟨_, rfl⟩
  | 11, _ => ⟨_, rfl⟩
  | 12, _ => ⟨_, rfl⟩
  | 13, _ => ⟨_, rfl⟩
  | 14, _ => ⟨_, rfl⟩
  | 15, _ => ⟨_, rfl⟩
  | 16, _ => ⟨_, rfl⟩
  | 17, _ => ⟨_, rfl⟩
  | 18, _ => ⟨_, rfl⟩
  | 19, _ => ⟨_, rfl⟩
  | 20, _ => ⟨_, rfl⟩
  | 21, _ => ⟨_, rfl⟩
  | 22, _ => ⟨_, rfl⟩
  | 23, _ => ⟨_, rfl⟩
  | 24, _ => ⟨_, rfl⟩
  | 25, _ => ⟨_, rfl⟩
  | 26, _ => ⟨_, rfl⟩
  | p + 27, h => absurd h (by omega)
end CK
theorem PySem.Challenge.cw_chestkeys_s01_answers_holds : PySem.Challenge.rw_chestkeys_s01_answers.Holds := by
  exact CK.law_of CK.rels_all
