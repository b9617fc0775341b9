import PyProof.Rows.All
import Wide.All
import OpenK.AllK
import Wide.FinOn
import HandS.ForMost
import HandS.ForExc
import HandS.Iter
import HandS.Zip
import HandS.IsInst
import HandS.Defaults
import HandS.More
import HandS.Deep
import HandS.TupAny
import HandS.Flow
import HandS.Style
import PySem.Challenge.RW_saidanew_k02_trees_and_other_values
set_option Elab.async false
set_option linter.all false
set_option maxRecDepth 100000
set_option maxHeartbeats 4000000
namespace K02
open PySem PySem.Spec PyProof.Rows L2
def top (i : Nat) : Stmt := PySem.Challenge.pw_saidanew_k02_trees_and_other_values.main.body.getD i (.Pass ⟨0, 0, 0, 0⟩)
abbrev sFeed : Stmt := top 25
abbrev sDraw : Stmt := top 26
abbrev sPick : Stmt := top 27
abbrev sSame : Stmt := top 28
abbrev sAny : Stmt := top 29
theorem scF : FnScope ["_law_script", "_law_k", "_law_cell", "_law_great"] ["_law_script", "_law_k"] (defScope sFeed) := ⟨rfl, rfl, rfl, by decide +kernel, rfl, by decide +kernel, by decide +kernel⟩
theorem scD : FnScope ["_law_feed", "_law_many", "_law_digit"] ["_law_feed", "_law_many"] (defScope sDraw) := ⟨rfl, rfl, rfl, by decide +kernel, rfl, by decide +kernel, by decide +kernel⟩
theorem scP : FnScope ["_law_feed", "_law_items"] ["_law_feed", "_law_items"] (defScope sPick) := ⟨rfl, rfl, rfl, by decide +kernel, rfl, by decide +kernel, by decide +kernel⟩
theorem same_new {H : Hp} {p : Addr} {o : HO} (h : H p = none) : Same H (upd H p o) := fun b u q => by rw [upd_ne (ne_of_none q h)]; exact q
def But (f : Addr) (H H' : Hp) : Prop := ∀ b o, b ≠ f → H b = some o → H' b = some o
theorem But.refl {f : Addr} {H : Hp} : But f H H := fun _ _ _ h => h
theorem But.trans {f : Addr} {H H1 H2 : Hp} (a : But f H H1) (b : But f H1 H2) : But f H H2 := fun c o n h => b c o n (a c o n h)
theorem But.of {f : Addr} {H H' : Hp} (s : Same H H') : But f H H' := fun c o _ h => s c o h
theorem But.upd {f : Addr} {H : Hp} {o : HO} : But f H (upd H f o) := fun c u n h => by rw [upd_ne n]; exact h
section
variable {P : Program} {w : World} {K : PySem.W.Frag} {mg : Str → Option Value} {base : Heap}
/-- a draw -/
def spDraw : Sp := fun vs H Q _ => ∃ (f : Addr) (g m many : Int), vs = [.ref f, .int many] ∧ H f = some (.lst [.int g, .int m]) ∧ 0 < many ∧ many < 1073741824 ∧
  ∀ d g' m' : Int, 0 ≤ d → d < many → Q (.int d) (upd H f (.lst [.int g', .int m']))
theorem ok_draw {f : Addr} {fd : FuncData} (F : Fun K "_law_draw" "_law_draw" sDraw f fd) : FnOk P w K mg base CX0 1 f fd ["_law_feed", "_law_many"] spDraw := by
  refine F.ok scD (fun vs H Q E h => ?_) (fun cdv A outer s H vs Q E hr h => ?_)
  · obtain ⟨f, g, m, many, rfl, _⟩ := h
    rfl
  · obtain ⟨f, g, m, many, rfl, hf, h0, h1, q⟩ := h
    refine ⟨_, pss_cons (ps_if (pt_cmpR op_gt (pe_ix ix_list (pv 0) pe_int (fun _ _ => rfl)) pe_int (nomark _))
        (pss_cons (ps_set (i := 2) scD.nd rfl (.inl rfl) (pe_op op_mod (pe_ix ix_list (pv 0) pe_int (fun _ _ => rfl)) (pv 1)))
        (pss_cons (ps_asg (pe_op op_fdiv (pe_ix ix_list (pv 0) pe_int (fun _ _ => rfl)) (pv 1)) (pg_sub (pv 0) pe_int set_list))
        (pss_one (ps_ret (pv 2))))) pss_nil)
      (pss_cons (ps_asg (pe_op op_mod (pe_op op_add (pe_op op_mul (pe_ix ix_list (pv 0) pe_int (fun _ _ => rfl)) pe_int) pe_int) pe_int) (pg_sub (pv 0) pe_int set_list))
      (pss_one (ps_ret (pe_op op_mod (pe_op op_fdiv (pe_ix ix_list (pv 0) pe_int (fun _ _ => rfl)) pe_int) (pv 1))))), ?_⟩
    have hS : SqL K H f [.int g, .int m] := SqL.of hf
    refine ⟨_, rfl, f, _, _, _, rfl, rfl, hS, atI_nat (j := 0) rfl, _, _, rfl, rfl, _, rfl, ?_⟩
    refine ite2 (fun c => ?_) (fun c => ?_)
    · refine ⟨_, rfl, f, _, _, _, rfl, rfl, hS, atI_nat (j := 0) rfl, _, rfl, _, _, rfl, rfl, h0, ?_⟩
      refine ⟨_, rfl, f, _, _, _, rfl, rfl, hS, atI_nat (j := 0) rfl, _, rfl, _, _, rfl, rfl, ⟨h0, h1⟩, ?_⟩
      refine ⟨_, rfl, f, _, _, 0, rfl, rfl, hf, rfl, _, rfl, ?_⟩
      exact q _ _ _ (Int.emod_nonneg _ (by omega)) (Int.emod_lt_of_pos _ h0)
    · refine ⟨_, rfl, f, _, _, _, rfl, rfl, hS, atI_nat (j := 1) rfl, _, _, rfl, rfl, .inr ⟨by decide, by decide⟩, _, _, rfl, rfl, _, _, rfl, rfl, (by show (0 : Int) < 2147483647; decide), ?_⟩
      refine ⟨_, rfl, f, _, _, 1, rfl, rfl, hf, rfl, ?_⟩
      refine ⟨_, rfl, f, _, _, _, rfl, rfl, SqL.of upd_same, atI_nat (j := 1) rfl, _, _, rfl, rfl, ⟨by decide, by decide⟩, _, rfl, _, _, rfl, rfl, h0, ?_⟩
      exact q _ _ _ (Int.emod_nonneg _ (by omega)) (Int.emod_lt_of_pos _ h0)
end
end K02

namespace K02
open PySem PySem.Spec PyProof.Rows L2
section
variable {P : Program} {w : World} {K : PySem.W.Frag} {mg : Str → Option Value} {base : Heap}
def spPick : Sp := fun vs H Q _ => ∃ (f a : Addr) (g m : Int) (xs : List V), vs = [.ref f, .ref a] ∧ H f = some (.lst [.int g, .int m]) ∧ H a = some (.lst xs) ∧ a ≠ f ∧ 0 < xs.length ∧ xs.length ≤ 1000 ∧
  ∀ (x : V) (g' m' : Int), x ∈ xs → Q x (upd H f (.lst [.int g', .int m']))
theorem ok_pick {f fD : Addr} {fd fdD : FuncData} (F : Fun K "_law_pick" "_law_pick" sPick f fd) (G : FnOk P w K mg base CX0 1 fD fdD ["_law_feed", "_law_many"] spDraw) (bD : Binds K fdD ["_law_feed", "_law_many"] []) (kD : PySem.W.keepIn K (.ref fD) = true)
    (mD : mg "_law_draw" = some (.ref fD)) (ml : mg "len" = none) : FnOk P w K mg base CX0 2 f fd ["_law_feed", "_law_items"] spPick := by
  refine F.ok scP (fun vs H Q E h => ?_) (fun cdv A outer s H vs Q E hr h => ?_)
  · obtain ⟨f, a, g, m, xs, rfl, _⟩ := h
    rfl
  · obtain ⟨f, a, g, m, xs, rfl, hf, ha, ne, h0, h1, q⟩ := h
    refine ⟨_, pss_one (ps_ret (pe_ix ix_list (pv 1) (pe_call G hr rfl mD kD bD .nil pass0 (pa_cons (pv 0) (pa_cons (pe_callB call_len_seq rfl ml PySem.boot_len (pa_cons (pv 1) pa_nil)) pa_nil))) (fun _ _ => rfl))), ?_⟩
    refine ⟨_, rfl, _, rfl, _, rfl, a, _, rfl, .inl (SqL.of ha), f, g, m, _, rfl, hf, by omega, by omega, fun d g' m' d0 d1 => ?_⟩
    obtain ⟨j, rfl⟩ : ∃ j : Nat, d = (j : Int) := ⟨d.toNat, by omega⟩
    have hj : j < xs.length := by omega
    refine ⟨a, xs, _, _, rfl, rfl, SqL.of (by rw [upd_ne ne]; exact ha), atI_nat (List.getElem?_eq_getElem hj), ?_⟩
    exact q _ g' m' (List.getElem_mem hj)
def spFeed (K : PySem.W.Frag) : Sp := fun vs H Q _ => ∃ (a : Addr) (ns : List Int) (k : Nat), vs = [.ref a, .int k] ∧ SqL K H a (ns.map V.int) ∧ ns.length ≤ 63 ∧
  ∀ (l : Addr) (g m : Int), H l = none → Q (.ref l) (upd H l (.lst [.int g, .int m]))
theorem ok_feed {f : Addr} {fd : FuncData} (F : Fun K "_law_feed_of" "_law_feed_of" sFeed f fd) (ml : mg "len" = none) : FnOk P w K mg base CX0 1 f fd ["_law_script", "_law_k"] (spFeed K) := by
  refine F.ok scF (fun vs H Q E h => ?_) (fun cdv A outer s H vs Q E hr h => ?_)
  · obtain ⟨a, ns, k, rfl, _⟩ := h
    rfl
  · obtain ⟨a, ns, k, rfl, hS, hlen, q⟩ := h
    refine ⟨_, pss_cons (ps_set (i := 2) scF.nd rfl (.inl rfl) (pe_op op_add (pe_op op_mul pe_int (pv 1)) pe_int))
      (pss_cons (ps_if (pt_cmpR op_lt (pv 1) (pe_callB call_len_seq rfl ml PySem.boot_len (pa_cons (pv 0) pa_nil)) (nomark _)) (pss_one (ps_set (i := 2) scF.nd rfl (.inl rfl) (pe_ix ix_list (pv 0) (pv 1) (fun _ _ => rfl)))) pss_nil)
      (pss_cons (ps_if (pt_cmpR op_lt (pv 2) pe_int (nomark _)) (pss_one (ps_set (i := 2) scF.nd rfl (.inl rfl) (pe_op op_sub pe_int (pe_op op_mul pe_int (pv 2))))) pss_nil)
      (pss_cons (ps_set (i := 3) scF.nd rfl (.inl rfl) (pe_ifExp (pt_cmpR op_ge (pv 2) (pe_op op_pow pe_int pe_int) (nomark _)) (pv 2) pe_int))
      (pss_one (ps_ret (pe_lst (pa_cons (pv 3) (pa_cons (pe_op op_add (pe_op op_add (pe_op op_mod (pv 2) pe_int) (pe_op op_mul pe_int (pv 1))) pe_int) pa_nil)))))))), ?_⟩
    refine ⟨_, rfl, _, _, rfl, rfl, .inl ⟨by decide, by decide⟩, _, _, rfl, rfl, ?_⟩
    refine ⟨_, rfl, _, rfl, a, _, rfl, .inl hS, _, _, rfl, rfl, _, rfl, ?_⟩
    refine ite2 (fun c => ?_) (fun c => ?_)
    · have c' : (k : Int) < (((ns.map V.int).length : Nat) : Int) := of_decide_eq_true c
      rw [List.length_map] at c'
      have hk : k < ns.length := by omega
      refine ⟨_, rfl, _, rfl, a, _, _, _, rfl, rfl, hS, atI_nat (v := V.int ns[k]) (by rw [List.getElem?_map, List.getElem?_eq_getElem hk]; rfl), ?_⟩
      refine ⟨_, rfl, _, _, rfl, rfl, _, rfl, ?_⟩
      refine ite2 (fun c => ?_) (fun c => ?_)
      · refine ⟨_, rfl, _, _, rfl, rfl, .inl ⟨by decide, by decide⟩, _, _, rfl, rfl, ?_⟩
        refine ⟨_, rfl, _, _, rfl, rfl, ⟨by decide, by decide, by decide⟩, _, _, rfl, rfl, _, rfl, ?_⟩
        refine ite2 (fun c => ?_) (fun c => ?_)
        · refine ⟨_, rfl, _, rfl, _, rfl, _, _, rfl, rfl, (by show (0 : Int) < 1000003; decide), _, rfl, _, _, rfl, rfl, .inl ⟨by decide, by decide⟩, _, _, rfl, rfl, _, _, rfl, rfl, (by show 2 ≤ sizeLine; decide), fun l hl => q l _ _ hl⟩
        · refine ⟨_, rfl, _, rfl, _, _, rfl, rfl, (by show (0 : Int) < 1000003; decide), _, rfl, _, _, rfl, rfl, .inl ⟨by decide, by decide⟩, _, _, rfl, rfl, _, _, rfl, rfl, (by show 2 ≤ sizeLine; decide), fun l hl => q l _ _ hl⟩
      · refine ⟨_, rfl, _, _, rfl, rfl, ⟨by decide, by decide, by decide⟩, _, _, rfl, rfl, _, rfl, ?_⟩
        refine ite2 (fun c => ?_) (fun c => ?_)
        · refine ⟨_, rfl, _, rfl, _, rfl, _, _, rfl, rfl, (by show (0 : Int) < 1000003; decide), _, rfl, _, _, rfl, rfl, .inl ⟨by decide, by decide⟩, _, _, rfl, rfl, _, _, rfl, rfl, (by show 2 ≤ sizeLine; decide), fun l hl => q l _ _ hl⟩
        · refine ⟨_, rfl, _, rfl, _, _, rfl, rfl, (by show (0 : Int) < 1000003; decide), _, rfl, _, _, rfl, rfl, .inl ⟨by decide, by decide⟩, _, _, rfl, rfl, _, _, rfl, rfl, (by show 2 ≤ sizeLine; decide), fun l hl => q l _ _ hl⟩
    · refine ⟨_, rfl, _, _, rfl, rfl, _, rfl, ?_⟩
      refine ite2 (fun c => ?_) (fun c => ?_)
      · refine ⟨_, rfl, _, _, rfl, rfl, .inl ⟨by decide, by decide⟩, _, _, rfl, rfl, ?_⟩
        refine ⟨_, rfl, _, _, rfl, rfl, ⟨by decide, by decide, by decide⟩, _, _, rfl, rfl, _, rfl, ?_⟩
        refine ite2 (fun c => ?_) (fun c => ?_)
        · refine ⟨_, rfl, _, rfl, _, rfl, _, _, rfl, rfl, (by show (0 : Int) < 1000003; decide), _, rfl, _, _, rfl, rfl, .inl ⟨by decide, by decide⟩, _, _, rfl, rfl, _, _, rfl, rfl, (by show 2 ≤ sizeLine; decide), fun l hl => q l _ _ hl⟩
        · refine ⟨_, rfl, _, rfl, _, _, rfl, rfl, (by show (0 : Int) < 1000003; decide), _, rfl, _, _, rfl, rfl, .inl ⟨by decide, by decide⟩, _, _, rfl, rfl, _, _, rfl, rfl, (by show 2 ≤ sizeLine; decide), fun l hl => q l _ _ hl⟩
      · refine ⟨_, rfl, _, _, rfl, rfl, ⟨by decide, by decide, by decide⟩, _, _, rfl, rfl, _, rfl, ?_⟩
        refine ite2 (fun c => ?_) (fun c => ?_)
        · refine ⟨_, rfl, _, rfl, _, rfl, _, _, rfl, rfl, (by show (0 : Int) < 1000003; decide), _, rfl, _, _, rfl, rfl, .inl ⟨by decide, by decide⟩, _, _, rfl, rfl, _, _, rfl, rfl, (by show 2 ≤ sizeLine; decide), fun l hl => q l _ _ hl⟩
        · refine ⟨_, rfl, _, rfl, _, _, rfl, rfl, (by show (0 : Int) < 1000003; decide), _, rfl, _, _, rfl, rfl, .inl ⟨by decide, by decide⟩, _, _, rfl, rfl, _, _, rfl, rfl, (by show 2 ≤ sizeLine; decide), fun l hl => q l _ _ hl⟩
end
end K02

namespace K02
open PySem PySem.Spec PyProof.Rows L2
/-! ### data of a depth -/
/-- flat and of bounded size -/
def leafV : V → Bool
  | .non => true
  | .bl _ => true
  | .int i => decide (-(10 ^ 60) ≤ i)
  | .str x => PyData.strOk x && decide (x.length ≤ 100)
  | _ => false
theorem leaf_flat {v : V} (h : leafV v = true) : flatV v = true := by
  cases v <;> first | rfl | cases h
/-- flat, or a tuple or a list of such, all of them at places of N -/
def Dn (N : Addr → Prop) (H : Hp) : Nat → V → Prop
  | 0, v => leafV v = true
  | n + 1, v => leafV v = true ∨ ∃ a xs, v = .ref a ∧ N a ∧ (H a = some (.tup xs) ∨ H a = some (.lst xs)) ∧ xs.length ≤ 3 ∧ ∀ x ∈ xs, Dn N H n x
theorem Dn.flat {N : Addr → Prop} {H : Hp} : ∀ {n : Nat} {v : V}, leafV v = true → Dn N H n v
  | 0, _, h => h
  | _ + 1, _, h => .inl h
theorem Dn.mono {N N' : Addr → Prop} {H H' : Hp} (hN : ∀ a, N a → N' a) (s : ∀ a o, N a → H a = some o → H' a = some o) : ∀ {n : Nat} {v : V}, Dn N H n v → Dn N' H' n v
  | 0, _, h => h
  | n + 1, v, h => by
    rcases h with h | ⟨a, xs, e, ne, h, l, q⟩
    · exact .inl h
    · refine .inr ⟨a, xs, e, hN a ne, ?_, l, fun x hx => Dn.mono hN s (q x hx)⟩
      rcases h with h | h
      · exact .inl (s _ _ ne h)
      · exact .inr (s _ _ ne h)
theorem But.none {f a : Addr} {H H' : Hp} {u : HO} (s : But f H H') (hf : H' f = some u) (h : H' a = none) : H a = none := by
  cases e : H a with
  | none => rfl
  | some o =>
    by_cases q : a = f
    · rw [q, hf] at h
      cases h
    · rw [s a o q e] at h
      cases h
abbrev nAny : List Str := ["_law_feed", "_law_deep", "_law_form", "_law_some", "_law_turn"]
theorem scA : FnScope nAny ["_law_feed", "_law_deep"] (defScope sAny) := ⟨rfl, rfl, rfl, by decide +kernel, rfl, by decide +kernel, by decide +kernel⟩
def someA : List V := [.int 0, .int 1, .int (-1), .int 17, .int (10 ^ 30), .bl true, .bl false, .non, .str "", .str "a", .str "red", .str "plus", .str "use", .str "Name", .str "a b", .str "abcdefghi", .str "int"]
def someB : List V := [.str "where", .str "rule", .str "true", .str "try", .str "cell", .str "global", .str "list", .str "same", .str "first", .str "none", .str "run", .str "made"]
theorem some_flat : ∀ x ∈ someA ++ someB, leafV x = true := by decide +kernel
section
variable {P : Program} {w : World} {K : PySem.W.Frag} {mg : Str → Option Value} {base : Heap}
def spAny (n : Nat) : Sp := fun vs H Q _ => ∃ (f : Addr) (g m : Int) (d : Nat), vs = [.ref f, .int d] ∧ H f = some (.lst [.int g, .int m]) ∧ d < n ∧
  ∀ (v : V) (H' : Hp) (g' m' : Int), But f H H' → H' f = some (.lst [.int g', .int m']) → Dn (fun a => H a = none) H' d v → Q v H'

def tA1 : TA := tCons (tC (V.int 0)) (tCons (tC (V.int 1)) (tCons (tUn (rU fun i => V.int (-i)) (tC (V.int 1))) (tCons (tC (V.int 17)) (tCons (tOp (rI CPow fun i j => V.int (i ^ j.toNat)) (tC (V.int 10)) (tC (V.int 30)))
  (tCons (tC (V.bl true)) (tCons (tC (V.bl false)) (tCons (tC V.non) (tCons (tC (V.str "")) (tCons (tC (V.str "a")) (tCons (tC (V.str "red")) (tCons (tC (V.str "plus")) (tCons (tC (V.str "use")) (tCons (tC (V.str "Name")) (tCons (tC (V.str "a b")) (tCons (tC (V.str "abcdefghi")) (tCons (tC (V.str "int")) tNil))))))))))))))))
def tA2 : TA := tCons (tC (V.str "where")) (tCons (tC (V.str "rule")) (tCons (tC (V.str "true")) (tCons (tC (V.str "try")) (tCons (tC (V.str "cell")) (tCons (tC (V.str "global")) (tCons (tC (V.str "list")) (tCons (tC (V.str "same")) (tCons (tC (V.str "first")) (tCons (tC (V.str "none")) (tCons (tC (V.str "run")) (tCons (tC (V.str "made")) tNil)))))))))))
theorem tail_ok {D : Ends} {f : Addr} {g m : Int} {H : Hp} {x1 x2 x3 x4 : Option V} (hf : H f = some (.lst [.int g, .int m]))
    (q : ∀ (v : V) (H' : Hp) (g' m' : Int), But f H H' → H' f = some (.lst [.int g', .int m']) → leafV v = true → D.rt v H') :
    tSeq (tAsg (tLst tA1) (gName 3)) (tSeq (tAsg (tOp rCat (tVar 3) (tLst tA2)) (gName 3)) (tRet (tCall spPick [] E0 (tCons (tVar 0) (tCons (tVar 3) tNil))))) D [some (.ref f), x1, x2, x3, x4] H := by
  refine ⟨_, rfl, _, _, rfl, rfl, ⟨by decide, by decide, by decide⟩, (by show 17 ≤ sizeLine; decide), fun p hp => ?_⟩
  refine ⟨_, rfl, (by show 12 ≤ sizeLine; decide), fun p2 hp2 => ?_⟩
  refine ⟨p, p2, _, _, rfl, rfl, (by rw [upd_ne (ne_of_none upd_same hp2)]; exact upd_same), upd_same, (by show 17 + 12 ≤ sizeLine; decide), fun t ht => ?_⟩
  have hft : (upd (upd (upd H p (.lst someA)) p2 (.lst someB)) t (.lst (someA ++ someB))) f = some (.lst [.int g, .int m]) := same_new ht _ _ (same_new hp2 _ _ (same_new hp _ _ hf))
  have hb : But f H (upd (upd (upd H p (.lst someA)) p2 (.lst someB)) t (.lst (someA ++ someB))) := But.of ((same_new hp).trans ((same_new hp2).trans (same_new ht)))
  refine ⟨_, rfl, _, rfl, f, t, g, m, someA ++ someB, rfl, hft, upd_same, ?_, by decide, by decide, fun x g' m' hx => ?_⟩
  · have z : (upd (upd H p (.lst someA)) p2 (.lst someB)) f = some (.lst [.int g, .int m]) := same_new hp2 _ _ (same_new hp _ _ hf)
    exact (ne_of_none z ht).symm
  · exact q x _ g' m' (hb.trans But.upd) upd_same (some_flat x hx)
def tCmp (many : Int) (n : Nat) : TE := tLc (iRng1 (tCons (tCall spDraw [] E0 (tCons (tVar 0) (tCons (tC (V.int many)) tNil))) tNil)) (gName 4) tYes
  (tCall (spAny n) [] E0 (tCons (tVar 0) (tCons (tOp (rI0 fun i j => V.int (i - j)) (tVar 1) (tC (V.int 1))) tNil))) [4]
theorem comp_ok {n d : Nat} {many : Int} {f : Addr} {g m : Int} {H : Hp} {Q : VK} {x2 x3 x4 : Option V} (h0 : 0 < many) (h4 : many ≤ 4) (hd : 0 < d) (hn : d ≤ n) (hf : H f = some (.lst [.int g, .int m]))
    (q : ∀ (D : Addr) (acc : List V) (H' : Hp) (g' m' : Int), But f H H' → H' f = some (.lst [.int g', .int m']) → H D = none → D ≠ f → H' D = some (.lst acc) → acc.length ≤ 3 → (∀ x ∈ acc, Dn (fun a => H a = none ∧ a ≠ D) H' (d - 1) x) → Q (.ref D) H') :
    tCmp many n [some (.ref f), some (.int d), x2, x3, x4] H Q := by
  refine ⟨_, rfl, f, g, m, many, rfl, hf, h0, by omega, fun k g1 m1 k0 k1 => ?_⟩
  have b1 : But f H (upd H f (.lst [.int g1, .int m1])) := But.upd
  have hf1 : (upd H f (.lst [.int g1, .int m1])) f = some (.lst [.int g1, .int m1]) := upd_same
  generalize upd H f (.lst [.int g1, .int m1]) = H1 at b1 hf1 ⊢
  obtain ⟨kn, rfl⟩ : ∃ kn : Nat, k = (kn : Int) := ⟨k.toNat, by omega⟩
  refine ⟨_, rfl, by omega, by omega, fun D hD => ?_⟩
  have hDf : D ≠ f := fun e => by rw [e, hf1] at hD; cases hD
  refine lc_range (lo := 0) (n := ((kn : Int)).toNat) (fun i H2 => ∃ (acc : List V) (g2 m2 : Int), H2 D = some (.lst acc) ∧ acc.length = i ∧ H2 f = some (.lst [.int g2, .int m2]) ∧ (∀ b o, b ≠ f → H1 b = some o → H2 b = some o) ∧ ∀ x ∈ acc, Dn (fun a => H a = none ∧ a ≠ D) H2 (d - 1) x)
    ⟨[], g1, m1, upd_same, rfl, by rw [upd_ne hDf.symm]; exact hf1, fun b o hb e => by rw [upd_ne (ne_of_none e hD)]; exact e, fun x hx => by cases hx⟩ ?_ ?_
  · rintro i H2 hi ⟨acc, g2, m2, eD, la, hf2, b2, ha⟩
    refine ⟨rfl, ?_⟩
    dsimp only [tYes]
    refine iteT ?_
    refine ⟨_, rfl, _, rfl, _, _, rfl, rfl, f, g2, m2, d - 1, ?_, hf2, by omega, fun v H3 g3 m3 b3 hf3 dv => ?_⟩
    · show [V.ref f, V.int ((d : Int) - 1)] ++ [] = _
      rw [show ((d : Int) - 1) = ((d - 1 : Nat) : Int) by omega]
      rfl
    have eD3 : H3 D = some (.lst acc) := b3 _ _ hDf eD
    have hfN : ∀ a, H a = none → a ≠ f := fun a z e => by rw [e, hf] at z; cases z
    have old : ∀ x ∈ acc, Dn (fun a => H a = none ∧ a ≠ D) H3 (d - 1) x := fun x hx => (ha x hx).mono (fun _ z => z) fun a o z e => b3 a o (hfN a z.1) e
    have dv' : Dn (fun a => H a = none ∧ a ≠ D) H3 (d - 1) v := dv.mono (fun a z => ⟨b1.none hf1 (But.none (f := f) (H' := H2) b2 hf2 z), fun e => by rw [e, eD] at z; cases z⟩) fun _ _ _ e => e
    refine ⟨acc, eD3, ?_, acc ++ [v], g3, m3, upd_same, by rw [List.length_append, la]; rfl, by rw [upd_ne hDf.symm]; exact hf3, fun b o hb e => ?_, fun x hx => ?_⟩
    · exact small1000 (by omega)
    · rw [upd_ne (ne_of_none e hD)]
      exact b3 _ _ hb (b2 _ _ hb e)
    · have fin : ∀ y, Dn (fun a => H a = none ∧ a ≠ D) H3 (d - 1) y → Dn (fun a => H a = none ∧ a ≠ D) (upd H3 D (.lst (acc ++ [v]))) (d - 1) y := fun y z => z.mono (fun _ z => z) fun a o z e => by rw [upd_ne z.2]; exact e
      rcases List.mem_append.mp hx with hx | hx
      · exact fin x (old x hx)
      · rw [List.mem_singleton] at hx
        rw [hx]
        exact fin v dv'
  · rintro H2 ⟨acc, g2, m2, eD, la, hf2, b2, ha⟩
    exact q D acc H2 g2 m2 (b1.trans b2) hf2 (b1.none hf1 hD) hDf eD (by omega) ha
/-- what stands of the defs that are called -/
structure TA1 (P : Program) (w : World) (K : PySem.W.Frag) (mg : Str → Option Value) (base : Heap) (fD fP fA : Addr) (fdD fdP fdA : FuncData) : Prop where
  GD : FnOk P w K mg base CX0 1 fD fdD ["_law_feed", "_law_many"] spDraw
  bD : Binds K fdD ["_law_feed", "_law_many"] []
  kD : PySem.W.keepIn K (.ref fD) = true
  mD : mg "_law_draw" = some (.ref fD)
  GP : FnOk P w K mg base CX0 2 fP fdP ["_law_feed", "_law_items"] spPick
  bP : Binds K fdP ["_law_feed", "_law_items"] []
  kP : PySem.W.keepIn K (.ref fP) = true
  mP : mg "_law_pick" = some (.ref fP)
  bA : Binds K fdA ["_law_feed", "_law_deep"] []
  kA : PySem.W.keepIn K (.ref fA) = true
  mA : mg "_law_any_value" = some (.ref fA)
  mt : mg "tuple" = none
  mr : mg "range" = none
theorem ok_any_step {n : Nat} {fD fP fA : Addr} {fdD fdP fdA : FuncData} {dvs : List V} {kws : List (Str × V)} (F : FunD K "_law_any_value" "_law_any_value" (defArgs sAny) (defBody sAny) (defScope sAny) dvs kws fA fdA) (T : TA1 P w K mg base fD fP fA fdD fdP fdA)
    (G : FnOk P w K mg base CX0 (n + 2) fA fdA ["_law_feed", "_law_deep"] (spAny n)) : FnOk P w K mg base CX0 (n + 3) fA fdA ["_law_feed", "_law_deep"] (spAny (n + 1)) := by
  refine F.ok (CX := CX0) scA (fun vs H Q E h => ?_) (fun cdv A outer s H vs Q E hr h => ?_)
  · obtain ⟨f, g, m, d, rfl, _⟩ := h
    rfl
  · obtain ⟨f, g, m, d, rfl, hf, hd, q⟩ := h
    have hr1 : Room 1 _ := hr.mono (by omega)
    have hr2 : Room 2 _ := hr.mono (by omega)
    refine ⟨_, pss_cons (ps_set (i := 2) scA.nd rfl (.inl rfl) (pe_call T.GD hr1 rfl T.mD T.kD T.bD .nil pass0 (pa_cons (pv 0) (pa_cons pe_int pa_nil))))
      (pss_cons (ps_if (PW.pt (pw_and (pt_cmpR op_lt (pv 2) pe_int (nomark _)) (pw_and1 (pt_cmpR op_gt (pv 1) pe_int (nomark _)))))
        (pss_one (ps_ret (pe_callTy call_tuple_of (by rfl) T.mt (by decide +kernel) (pa_cons
          (pe_lc (own := [("_law_turn", 4)]) (g := gName 4) (tt := tYes) rfl scA.nd (pi_range1 rfl T.mr (pa_cons (pe_call T.GD hr1 rfl T.mD T.kD T.bD .nil pass0 (pa_cons (pv 0) (pa_cons pe_int pa_nil))) pa_nil)) (blkOk_by (N := nAny) (sc := defScope sAny) (by decide +kernel))
            (fun _ _ _ _ _ => pg_name (i := 4) scA.nd rfl (Or.inl rfl)) (fun _ _ _ _ _ => pts_nil) (fun _ _ _ _ _ => pe_call G hr rfl T.mA T.kA T.bA .nil pass0 (pa_cons (pv 0) (pa_cons (pe_op op_sub (pv 1) pe_int) pa_nil)))) pa_nil)))) pss_nil)
      (pss_cons (ps_if (PW.pt (pw_and (pt_cmpR op_eq (pv 2) pe_int (nomark _)) (pw_and1 (pt_cmpR op_gt (pv 1) pe_int (nomark _)))))
        (pss_one (ps_ret
          (pe_lc (own := [("_law_turn", 4)]) (g := gName 4) (tt := tYes) rfl scA.nd (pi_range1 rfl T.mr (pa_cons (pe_call T.GD hr1 rfl T.mD T.kD T.bD .nil pass0 (pa_cons (pv 0) (pa_cons pe_int pa_nil))) pa_nil)) (blkOk_by (N := nAny) (sc := defScope sAny) (by decide +kernel))
            (fun _ _ _ _ _ => pg_name (i := 4) scA.nd rfl (Or.inl rfl)) (fun _ _ _ _ _ => pts_nil) (fun _ _ _ _ _ => pe_call G hr rfl T.mA T.kA T.bA .nil pass0 (pa_cons (pv 0) (pa_cons (pe_op op_sub (pv 1) pe_int) pa_nil)))))) pss_nil)
      (pss_cons (ps_set (i := 3) scA.nd rfl (.inl rfl) (pe_lst (pa_cons pe_int (pa_cons pe_int (pa_cons (pe_un un_neg pe_int) (pa_cons pe_int (pa_cons (pe_op op_pow pe_int pe_int) (pa_cons pe_bl (pa_cons pe_bl (pa_cons pe_non (pa_cons pe_str (pa_cons pe_str (pa_cons pe_str (pa_cons pe_str (pa_cons pe_str (pa_cons pe_str (pa_cons pe_str (pa_cons pe_str (pa_cons pe_str pa_nil)))))))))))))))))))
      (pss_cons (ps_set (i := 3) scA.nd rfl (.inl rfl) (pe_op op_cat (pv 3) (pe_lst (pa_cons pe_str (pa_cons pe_str (pa_cons pe_str (pa_cons pe_str (pa_cons pe_str (pa_cons pe_str (pa_cons pe_str (pa_cons pe_str (pa_cons pe_str (pa_cons pe_str (pa_cons pe_str (pa_cons pe_str pa_nil)))))))))))))))
      (pss_one (ps_ret (pe_call T.GP hr2 rfl T.mP T.kP T.bP .nil pass0 (pa_cons (pv 0) (pa_cons (pv 3) pa_nil))))))))), ?_⟩
    -- the draw of the form
    refine ⟨_, rfl, f, g, m, 12, rfl, hf, by decide, by decide, fun form g1 m1 f0 f1 => ?_⟩
    have b1 : But f H (upd H f (.lst [.int g1, .int m1])) := But.upd
    have hf1 : (upd H f (.lst [.int g1, .int m1])) f = some (.lst [.int g1, .int m1]) := upd_same
    generalize upd H f (.lst [.int g1, .int m1]) = H1 at b1 hf1 ⊢
    have fin : ∀ (v : V) (H' : Hp) (g' m' : Int), But f H1 H' → H' f = some (.lst [.int g', .int m']) → leafV v = true → Q v H' := fun v H' g' m' b e fl => q v H' g' m' (b1.trans b) e (Dn.flat fl)
    have finL : ∀ (D : Addr) (acc : List V) (H' : Hp) (g' m' : Int), 0 < d → But f H1 H' → H' f = some (.lst [.int g', .int m']) → H1 D = none → D ≠ f → H' D = some (.lst acc) → acc.length ≤ 3 → (∀ x ∈ acc, Dn (fun a => H1 a = none ∧ a ≠ D) H' (d - 1) x) → Q (.ref D) H' := fun D acc H' g' m' hd0 b e nD nf eD la ha => by
      refine q _ H' g' m' (b1.trans b) e ?_
      obtain ⟨d', rfl⟩ : ∃ d', d = d' + 1 := ⟨d - 1, by omega⟩
      exact .inr ⟨D, acc, rfl, b1.none hf1 nD, .inr eD, la, fun x hx => (ha x hx).mono (fun a z => b1.none hf1 z.1) fun _ _ _ e => e⟩
    have finT : ∀ (D l : Addr) (acc : List V) (H' : Hp) (g' m' : Int), 0 < d → But f H1 H' → H' f = some (.lst [.int g', .int m']) → H1 D = none → D ≠ f → H' D = some (.lst acc) → acc.length ≤ 3 → (∀ x ∈ acc, Dn (fun a => H1 a = none ∧ a ≠ D) H' (d - 1) x) → H' l = none → Q (.ref l) (upd H' l (.tup acc)) := fun D l acc H' g' m' hd0 b e nD nf eD la ha nl => by
      refine q _ _ g' m' (b1.trans (b.trans (But.of (same_new nl)))) (same_new nl _ _ e) ?_
      obtain ⟨d', rfl⟩ : ∃ d', d = d' + 1 := ⟨d - 1, by omega⟩
      exact .inr ⟨l, acc, rfl, (b1.trans b).none e nl, .inl upd_same, la, fun x hx => (ha x hx).mono (fun a z => b1.none hf1 z.1) fun a o _ e => same_new nl _ _ e⟩
    have second : tSeq (tIfS (tAnd (tTest (tOp rEq (tVar 2) (tC (V.int 3)))) (tTest (tOp (rI0 fun i j => V.bl (decide (j < i))) (tVar 1) (tC (V.int 0))))) (tRet (tCmp 3 n)) tNext)
        (tSeq (tAsg (tLst tA1) (gName 3)) (tSeq (tAsg (tOp rCat (tVar 3) (tLst tA2)) (gName 3)) (tRet (tCall spPick [] E0 (tCons (tVar 0) (tCons (tVar 3) tNil))))))
        { nx := fun _ H' => Q V.non H', rt := Q } [some (.ref f), some (.int d), some (.int form), none, none] H1 := by
      refine ⟨_, rfl, rfl, _, rfl, ?_⟩
      refine ite2 (fun c => ?_) (fun c => ?_)
      · refine ⟨_, rfl, _, _, rfl, rfl, _, rfl, ?_⟩
        refine ite2 (fun c2 => ?_) (fun c2 => ?_)
        · have c2' : (0 : Int) < (d : Int) := of_decide_eq_true c2
          exact comp_ok (by decide) (by decide) (by omega) (by omega) hf1 fun D acc H' g' m' b e nD nf eD la ha => finL D acc H' g' m' (by omega) b e nD nf eD la ha
        · exact tail_ok hf1 fin
      · exact iteF (tail_ok hf1 fin)
    refine ⟨_, rfl, _, _, rfl, rfl, _, rfl, ?_⟩
    refine ite2 (fun c => ?_) (fun c => ?_)
    · refine ⟨_, rfl, _, _, rfl, rfl, _, rfl, ?_⟩
      refine ite2 (fun c2 => ?_) (fun c2 => ?_)
      · have c2' : (0 : Int) < (d : Int) := of_decide_eq_true c2
        unfold tRet tCB
        show tCmp 4 n [some (.ref f), some (.int d), some (.int form), none, none] H1 (fun x H2 => tNil (List.set (L2.start nAny [V.ref f, V.int ↑d]) 2 (some (V.int form))) H2 _)
        refine comp_ok (many := 4) (n := n) (d := d) (g := g1) (m := m1) (by decide) (by decide) (by omega) (by omega) hf1 ?_
        intro D acc H' g' m' b e nD nf eD la ha
        exact ⟨D, acc, rfl, .inl ⟨SqL.of eD, fun l nl => finT D l acc H' g' m' (by omega) b e nD nf eD la ha nl⟩⟩
      · exact second
    · exact iteF second
theorem any_none {f : Addr} {fd : FuncData} : FnOk P w K mg base CX0 2 f fd ["_law_feed", "_law_deep"] (spAny 0) := by
  have no : ∀ vs H Q E, ¬ spAny 0 vs H Q E := fun vs H Q E h => by
    obtain ⟨f, g, m, d, _, _, h1, _⟩ := h
    omega
  exact ⟨fun vs H Q E h => absurd h (no vs H Q E), fun A outer s H args us vs Q E _ _ _ _ h => absurd h (no vs H Q E)⟩
theorem ok_any {fD fP fA : Addr} {fdD fdP fdA : FuncData} {dvs : List V} {kws : List (Str × V)} (F : FunD K "_law_any_value" "_law_any_value" (defArgs sAny) (defBody sAny) (defScope sAny) dvs kws fA fdA) (T : TA1 P w K mg base fD fP fA fdD fdP fdA) :
    ∀ n : Nat, FnOk P w K mg base CX0 (n + 2) fA fdA ["_law_feed", "_law_deep"] (spAny n)
  | 0 => any_none
  | n + 1 => ok_any_step F T (ok_any F T n)
end
end K02

namespace K02
open PySem PySem.Spec PyProof.Rows L2
/-! ### a comprehension over zip of two lists or two tuples of one length -/
theorem lc_zipG {J : It} {xs ys : List V} {g : TG} {tt : TT} {te : TE} {vs : List Nat} {σ : L2.St} {H1 : Hp} {D : Addr} {Qd : Hp → Prop} (hl : xs.length = ys.length) (Pv : Nat → Hp → Prop) (h0 : Pv 0 (upd H1 D (.lst [])))
    (hgo : ∀ i H x y, Pv i H → xs[i]? = some x → ys[i]? = some y → J.go i H) (hst : ∀ H, Pv xs.length H → J.stop xs.length H)
    (hy : ∀ i H v H' x y, Pv i H → xs[i]? = some x → ys[i]? = some y → J.yld i H v H' → ∃ T, v = .ref T ∧ H T = none ∧ H' = upd H T (.tup [x, y]))
    (hs : ∀ i x y T H, xs[i]? = some x → ys[i]? = some y → Pv i H → H T = none → g (.ref T) (wipe σ vs) (upd H T (.tup [x, y])) fun σ2 H2 => wipe σ2 vs = wipe σ vs ∧ tt σ2 H2 fun b H3 =>
      if b = true then te σ2 H3 fun y H4 => ∃ sofar, H4 D = some (.lst sofar) ∧ sofar.length < sizeLine ∧ Pv (i + 1) (upd H4 D (.lst (sofar ++ [y]))) else Pv (i + 1) H3) (hd : ∀ H, Pv xs.length H → Qd H) :
    ∃ Wz : Nat → Nat → Hp → Prop, (∃ m, Wz 0 m (upd H1 D (.lst []))) ∧ ∀ i m H, Wz i m H →
      (J.stop i H ∧ Qd H) ∨ (J.go i H ∧ ∃ Go : Hp → Prop, (∀ H', Go H' → ∃ m', m' < m ∧ Wz (i + 1) m' H') ∧ ∀ x H', J.yld i H x H' → g x (wipe σ vs) H' fun σ2 H2 => wipe σ2 vs = wipe σ vs ∧ tt σ2 H2 fun b H3 =>
        if b = true then te σ2 H3 fun y H4 => ∃ sofar, H4 D = some (.lst sofar) ∧ sofar.length < sizeLine ∧ Go (upd H4 D (.lst (sofar ++ [y]))) else Go H3) := by
  refine ⟨fun i m H => m = xs.length - i ∧ i ≤ xs.length ∧ Pv i H, ⟨xs.length, by simp, Nat.zero_le _, h0⟩, ?_⟩
  rintro i m H ⟨rfl, hi, pi0⟩
  by_cases lt1 : i < xs.length
  · have gx : xs[i]? = some xs[i] := List.getElem?_eq_getElem lt1
    have lt2 : i < ys.length := by omega
    have hyy : ys[i]? = some ys[i] := List.getElem?_eq_getElem lt2
    refine .inr ⟨hgo i H _ _ pi0 gx hyy, Pv (i + 1), fun H' p' => ⟨xs.length - (i + 1), by omega, rfl, lt1, p'⟩, fun x H' y => ?_⟩
    obtain ⟨T, rfl, hT, rfl⟩ := hy i H x H' _ _ pi0 gx hyy y
    exact hs i _ _ T H gx hyy pi0 hT
  · have eqi : i = xs.length := by omega
    subst eqi
    exact .inl ⟨hst H pi0, hd H pi0⟩
/-! ### two data that are alike -/
def Alike (H : Hp) : Nat → V → V → Prop
  | 0, x, y => flatV x = true ∧ x = y
  | n + 1, x, y => (flatV x = true ∧ x = y) ∨ ∃ a b xs ys, x = .ref a ∧ y = .ref b ∧ ((H a = some (.tup xs) ∧ H b = some (.tup ys)) ∨ (H a = some (.lst xs) ∧ H b = some (.lst ys))) ∧ xs.length ≤ 100 ∧ xs.length = ys.length ∧
      ∀ (i : Nat) (u v : V), xs[i]? = some u → ys[i]? = some v → Alike H n u v
theorem Alike.flat {H : Hp} : ∀ {n : Nat} {x : V}, flatV x = true → Alike H n x x
  | 0, _, h => ⟨h, rfl⟩
  | _ + 1, _, h => .inl ⟨h, rfl⟩
theorem Alike.mono {H H' : Hp} (s : Same H H') : ∀ {n : Nat} {x y : V}, Alike H n x y → Alike H' n x y
  | 0, _, _, h => h
  | n + 1, x, y, h => by
    rcases h with h | ⟨a, b, xs, ys, e1, e2, h, l, l2, q⟩
    · exact .inl h
    · refine .inr ⟨a, b, xs, ys, e1, e2, ?_, l, l2, fun i u v h1 h2 => Alike.mono s (q i u v h1 h2)⟩
      rcases h with ⟨h1, h2⟩ | ⟨h1, h2⟩
      · exact .inl ⟨s _ _ h1, s _ _ h2⟩
      · exact .inr ⟨s _ _ h1, s _ _ h2⟩
theorem Alike.up {H : Hp} : ∀ {n : Nat} {x y : V}, Alike H n x y → Alike H (n + 1) x y
  | 0, _, _, h => .inl h
  | n + 1, x, y, h => by
    rcases h with h | ⟨a, b, xs, ys, e1, e2, h, l, l2, q⟩
    · exact .inl h
    · exact .inr ⟨a, b, xs, ys, e1, e2, h, l, l2, fun i u v h1 h2 => (q i u v h1 h2).up⟩
theorem Dn.alike {N : Addr → Prop} {H : Hp} : ∀ {n : Nat} {v : V}, Dn N H n v → Alike H n v v
  | 0, _, h => ⟨leaf_flat h, rfl⟩
  | n + 1, v, h => by
    rcases h with h | ⟨a, xs, e, ne, h, l, q⟩
    · exact .inl ⟨leaf_flat h, rfl⟩
    · refine .inr ⟨a, a, xs, xs, e, e, ?_, by omega, rfl, fun i u w h1 h2 => ?_⟩
      · rcases h with h | h
        · exact .inl ⟨h, h⟩
        · exact .inr ⟨h, h⟩
      · rw [h1] at h2
        cases h2
        exact (q u (List.mem_of_getElem? h1)).alike
def tyS : V → String
  | .non => "NoneType"
  | .bl _ => "bool"
  | .int _ => "int"
  | _ => "str"
theorem tyS_of {K : PySem.W.Frag} {H : Hp} {x : V} (h : flatV x = true) : TyX K H x (.type (tyS x)) := by
  cases x <;> first | exact .base .non | exact .base (.bl _) | exact .base (.int _) | exact .base (.str _) | cases h
theorem tyS_one (x : V) : tyS x = "NoneType" ∨ tyS x = "bool" ∨ tyS x = "int" ∨ tyS x = "str" := by
  cases x <;> first | exact .inl rfl | exact .inr (.inl rfl) | exact .inr (.inr (.inl rfl)) | exact .inr (.inr (.inr rfl))
theorem tyS_tup {K : PySem.W.Frag} {x : V} : PySem.W.kitOne K (.type (tyS x)) (.type "tuple") = some false := by
  rcases tyS_one x with e | e | e | e <;> rw [e] <;> exact kit_ty (by decide +kernel)
theorem tyS_lst {K : PySem.W.Frag} {x : V} : PySem.W.kitOne K (.type (tyS x)) (.type "list") = some false := by
  rcases tyS_one x with e | e | e | e <;> rw [e] <;> exact kit_ty (by decide +kernel)
theorem tyS_bl {K : PySem.W.Frag} {x : V} : ∃ b, PySem.W.kitOne K (.type (tyS x)) (.type "bool") = some b := by
  rcases tyS_one x with e | e | e | e <;> rw [e] <;> first | exact ⟨true, kit_ty (by decide +kernel)⟩ | exact ⟨false, kit_ty (by decide +kernel)⟩
theorem scal_flat {x : V} (h : flatV x = true) : scal x x = true := by
  cases x <;> first | rfl | cases h
abbrev nSame : List Str := ["_law_found", "_law_due", "_law_one", "_law_other"]
theorem scS : FnScope nSame ["_law_found", "_law_due"] (defScope sSame) := ⟨rfl, rfl, rfl, by decide +kernel, rfl, by decide +kernel, by decide +kernel⟩
section
variable {P : Program} {w : World} {K : PySem.W.Frag} {mg : Str → Option Value} {base : Heap}
def spSame (n : Nat) : Sp := fun vs H Q _ => ∃ (x y : V) (d : Nat), vs = [x, y] ∧ d < n ∧ Alike H d x y ∧ ∀ H', Same H H' → Q (.bl true) H'
structure TB (mg : Str → Option Value) : Prop where
  mi : mg "isinstance" = none
  mt : mg "tuple" = none
  ml : mg "list" = none
  mb : mg "bool" = none
  mn : mg "len" = none
  ma : mg "all" = none
  mz : mg "zip" = none
theorem ok_same_step {n : Nat} {f : Addr} {fd : FuncData} (F : Fun K "_law_same" "_law_same" sSame f fd) (T : TB mg) (bS : Binds K fd ["_law_found", "_law_due"] []) (mS : mg "_law_same" = some (.ref f))
    (G : FnOk P w K mg base CX0 n f fd ["_law_found", "_law_due"] (spSame n)) : FnOk P w K mg base CX0 (n + 1) f fd ["_law_found", "_law_due"] (spSame (n + 1)) := by
  refine F.ok scS (fun vs H Q E h => ?_) (fun cdv A outer s H vs Q E hr h => ?_)
  · obtain ⟨x, y, d, rfl, _⟩ := h
    rfl
  · obtain ⟨x, y, d, rfl, hd, al, q⟩ := h
    have kS := F.kp
    refine ⟨_, pss_cons (ps_if (pt_val (pe_callB call_isiT (by rfl) T.mi (by decide +kernel) (pa_cons (pv 1) (pa_cons (pe_tup (pa_cons (pe_bltn (v := .ty "tuple") (by rfl) T.mt (by decide +kernel) rfl) (pa_cons (pe_bltn (v := .ty "list") (by rfl) T.ml (by decide +kernel) rfl) pa_nil))) pa_nil))))
        (pss_cons (ps_if (PW.pt (pw_or
            (pt_cmpR op_ne (pe_callB call_isi (by rfl) T.mi (by decide +kernel) (pa_cons (pv 0) (pa_cons (pe_bltn (v := .ty "tuple") (by rfl) T.mt (by decide +kernel) rfl) pa_nil)))
              (pe_callB call_isi (by rfl) T.mi (by decide +kernel) (pa_cons (pv 1) (pa_cons (pe_bltn (v := .ty "tuple") (by rfl) T.mt (by decide +kernel) rfl) pa_nil))) (nomark _))
            (pw_or1 (pt_cmpR op_ne (pe_callB call_isi (by rfl) T.mi (by decide +kernel) (pa_cons (pv 0) (pa_cons (pe_bltn (v := .ty "list") (by rfl) T.ml (by decide +kernel) rfl) pa_nil)))
              (pe_callB call_isi (by rfl) T.mi (by decide +kernel) (pa_cons (pv 1) (pa_cons (pe_bltn (v := .ty "list") (by rfl) T.ml (by decide +kernel) rfl) pa_nil))) (nomark _)))))
            (pss_one (ps_ret pe_bl)) pss_nil)
        (pss_one (ps_ret (pe_and (pe_cmpR op_eq (pe_callB call_len_seq rfl T.mn PySem.boot_len (pa_cons (pv 0) pa_nil)) (pe_callB call_len_seq rfl T.mn PySem.boot_len (pa_cons (pv 1) pa_nil)) (nomark _))
          (pe_one (pe_callB (cr_all rfl) (by rfl) T.ma (by decide +kernel) (pa_cons
            (pe_lc (own := [("_law_one", 2), ("_law_other", 3)]) (g := gTup K 2 (gCons (gName 2) (gCons (gName 3) gNil))) (tt := tYes) rfl scS.nd (RZ.pi_zipA (by rfl) T.mz (pa_cons (pv 0) (pa_cons (pv 1) pa_nil))) (blkOk_by (N := nSame) (sc := defScope sSame) (by decide +kernel))
              (fun _ _ _ _ _ => pg_tup rfl (pgs_cons (pg_name (i := 2) scS.nd rfl (.inl rfl)) (pgs_cons (pg_name (i := 3) scS.nd rfl (.inl rfl)) pgs_nil))) (fun _ _ _ _ _ => pts_nil)
              (fun _ _ _ _ _ => pe_call G hr rfl mS kS bS .nil pass0 (pa_cons (pv 2) (pa_cons (pv 3) pa_nil)))) pa_nil))))))) pss_nil)
      (pss_one (ps_ret (pe_and (pe_cmpR op_eq (pe_callB call_isi (by rfl) T.mi (by decide +kernel) (pa_cons (pv 0) (pa_cons (pe_bltn (v := .ty "bool") (by rfl) T.mb (by decide +kernel) rfl) pa_nil)))
          (pe_callB call_isi (by rfl) T.mi (by decide +kernel) (pa_cons (pv 1) (pa_cons (pe_bltn (v := .ty "bool") (by rfl) T.mb (by decide +kernel) rfl) pa_nil))) (nomark _))
        (pe_one (pe_cmpR op_eq (pv 0) (pv 1) (nomark _)))))), ?_⟩
    refine ⟨_, rfl, (by show 2 ≤ sizeLine; decide), fun p hp => ?_⟩
    have s1 : Same H (upd H p (.tup [.ty "tuple", .ty "list"])) := same_new hp
    have hp1 : (upd H p (.tup [.ty "tuple", .ty "list"])) p = some (.tup [.ty "tuple", .ty "list"]) := upd_same
    generalize upd H p (.tup [.ty "tuple", .ty "list"]) = H1 at s1 hp1 ⊢
    have clv : Paired ClsV [.ty "tuple", .ty "list"] [.type "tuple", .type "list"] := .cons (.ty _) (.cons (.ty _) .nil)
    have al1 := al.mono s1
    -- flat or not
    have two : (flatV x = true ∧ x = y) ∨ ∃ (a b : Addr) (xs ys : List V) (n' : Nat), x = .ref a ∧ y = .ref b ∧ ((H1 a = some (.tup xs) ∧ H1 b = some (.tup ys)) ∨ (H1 a = some (.lst xs) ∧ H1 b = some (.lst ys))) ∧ xs.length ≤ 100 ∧ xs.length = ys.length ∧ n' < n ∧
        ∀ (i : Nat) (u v : V), xs[i]? = some u → ys[i]? = some v → Alike H1 n' u v := by
      cases d with
      | zero => exact .inl al1
      | succ d =>
        rcases al1 with h | ⟨a, b, xs, ys, e1, e2, h, l, l2, q⟩
        · exact .inl h
        · exact .inr ⟨a, b, xs, ys, d, e1, e2, h, l, l2, by omega, q⟩
    rcases two with ⟨fx, rfl⟩ | ⟨a, b, xs, ys, n', rfl, rfl, hab, hl, hl2, hn', hall⟩
    · refine ⟨x, p, _, _, _, false, rfl, hp1, clv, tyS_of fx, kitAny_cons tyS_tup (fun _ => kitAny_cons tyS_lst (fun _ => kitAny_nil) (fun z => nomatch z)) (fun z => nomatch z), false, rfl, iteF ?_⟩
      obtain ⟨bb, hbb⟩ := tyS_bl (K := K) (x := x)
      refine ⟨_, rfl, x, _, _, _, bb, rfl, .ty _, tyS_of fx, hbb, _, rfl, x, _, _, _, bb, rfl, .ty _, tyS_of fx, hbb, rfl, true, ?_, iteT ?_⟩
      · rw [decide_eq_true rfl]
      · refine ⟨_, rfl, _, rfl, scal_flat fx, ?_⟩
        rw [decide_eq_true rfl]
        exact q H1 s1
    · -- the lists' common end: the comprehension
      have fin : ∀ (J : It) (D : Addr) (H2 : Hp) (Qd : Hp → Prop), Same H1 H2 → H2 D = none → (∀ i H, Same H2 H → (∀ u v, xs[i]? = some u → ys[i]? = some v → J.go i H)) → (∀ H, Same H2 H → J.stop xs.length H) →
          (∀ i H v H' u w, Same H2 H → xs[i]? = some u → ys[i]? = some w → J.yld i H v H' → ∃ T, v = .ref T ∧ H T = none ∧ H' = upd H T (.tup [u, w])) → (∀ (H3 : Hp) (bs : List Bool), Same H H3 → H3 D = some (.lst (bs.map V.bl)) → bs.all id = true → Qd H3) →
          ∃ W : Nat → Nat → Hp → Prop, (∃ m, W 0 m (upd H2 D (.lst []))) ∧ ∀ i m H, W i m H →
            (J.stop i H ∧ Qd H) ∨ (J.go i H ∧ ∃ Nx : Hp → Prop, (∀ H', Nx H' → ∃ m', m' < m ∧ W (i + 1) m' H') ∧ ∀ x H', J.yld i H x H' → gTup K 2 (gCons (gName 2) (gCons (gName 3) gNil)) x (wipe [some (.ref a), some (.ref b), none, none] [2, 3]) H' fun σ2 H2 => wipe σ2 [2, 3] = wipe [some (.ref a), some (.ref b), none, none] [2, 3] ∧ tYes σ2 H2 fun b H3 =>
              if b = true then tCall (spSame n) [] E0 (tCons (tVar 2) (tCons (tVar 3) tNil)) σ2 H3 fun y H4 => ∃ acc, H4 D = some (.lst acc) ∧ acc.length < sizeLine ∧ Nx (upd H4 D (.lst (acc ++ [y]))) else Nx H3) := by
        intro J D H2 Qd s2 nD hgo hstop hyld hQ
        refine lc_zipG hl2 (fun i H3 => Same H2 H3 ∧ ∃ bs : List Bool, H3 D = some (.lst (bs.map V.bl)) ∧ bs.length = i ∧ bs.all id = true)
          ⟨same_new nD, [], upd_same, rfl, rfl⟩ (fun i H u v p h1 h2 => hgo i H p.1 u v h1 h2) (fun H p => hstop H p.1) (fun i H v H' u w p h1 h2 hy => hyld i H v H' u w p.1 h1 h2 hy) ?_ ?_
        · rintro i u v T H3 hu hv ⟨s3, bs, eD, lb, ab⟩ nT
          have s4 : Same H3 (upd H3 T (.tup [u, v])) := same_new nT
          refine ⟨T, _, rfl, SqT.of upd_same, rfl, u, _, rfl, v, _, rfl, rfl, rfl, ?_⟩
          dsimp only [tYes]
          refine iteT ?_
          refine ⟨_, rfl, _, rfl, u, v, n', rfl, hn', (hall i u v hu hv).mono (s2.trans (s3.trans s4)), fun H5 s5 => ?_⟩
          have eD5 : H5 D = some (.lst (bs.map V.bl)) := s5 _ _ (s4 _ _ eD)
          refine ⟨_, eD5, ?_, fun b o e => ?_, bs ++ [true], ?_, ?_, ?_⟩
          · rw [List.length_map]
            have := (List.getElem?_eq_some_iff.mp hu).1
            exact small1000 (by omega)
          · by_cases hb : b = D
            · rw [hb, nD] at e
              cases e
            · rw [upd_ne hb]
              exact s5 _ _ (s4 _ _ (s3 _ _ e))
          · rw [upd_same, List.map_append]
            rfl
          · rw [List.length_append, lb]
            rfl
          · rw [List.all_append, ab]
            rfl
        · rintro H3 ⟨s3, bs, eD, lb, ab⟩
          exact hQ H3 bs (s1.trans (s2.trans s3)) eD ab
      rcases hab with ⟨ha, hb⟩ | ⟨ha, hb⟩
      · refine ⟨_, p, _, _, _, true, rfl, hp1, clv, .base (.tup hb), kitAny_cons (b := true) (kit_ty (by decide +kernel)) (fun z => nomatch z) (fun _ => rfl), true, rfl, iteT ?_⟩
        refine ⟨_, rfl, _, _, _, _, true, rfl, .ty _, .base (.tup ha), kit_ty (by decide +kernel), _, rfl, _, _, _, _, true, rfl, .ty _, .base (.tup hb), kit_ty (by decide +kernel), rfl, false, rfl, iteF ?_⟩
        refine ⟨_, rfl, _, _, _, _, false, rfl, .ty _, .base (.tup ha), kit_ty (by decide +kernel), _, rfl, _, _, _, _, false, rfl, .ty _, .base (.tup hb), kit_ty (by decide +kernel), rfl, false, rfl, iteF ?_⟩
        refine ⟨_, rfl, a, xs, rfl, .inr (SqT.of ha), _, rfl, b, ys, rfl, .inr (SqT.of hb), rfl, true, by rw [hl2, decide_eq_true rfl], iteT ?_⟩
        refine ⟨_, rfl, _, rfl, a, b, xs, ys, rfl, .inr ⟨SqT.of ha, SqT.of hb, fun D nD => ?_⟩⟩
        refine fin (RZ.ItzT K a b) D H1 _ (Same.refl _) nD (fun i H s u v h1 h2 => ⟨xs, ys, u, v, SqT.of (s _ _ ha), SqT.of (s _ _ hb), h1, h2⟩) (fun H s => ⟨xs, ys, SqT.of (s _ _ ha), SqT.of (s _ _ hb), .inl (Nat.le_refl _)⟩) ?_ ?_
        · rintro i H v H' u w s h1 h2 ⟨T, u', w', rfl, nT, rfl, f1, f2⟩
          have e1 : u = u' := Option.some.inj (h1.symm.trans (f1 xs (SqT.of (s _ _ ha))))
          have e2 : w = w' := Option.some.inj (h2.symm.trans (f2 ys (SqT.of (s _ _ hb))))
          rw [e1, e2]
          exact ⟨T, rfl, nT, rfl⟩
        · intro H3 bs s3 eD ab
          refine ⟨D, bs, rfl, SqL.of eD, ?_⟩
          rw [ab]
          exact q H3 s3
      · refine ⟨_, p, _, _, _, true, rfl, hp1, clv, .base (.lst hb), kitAny_cons (b := false) (kit_ty (by decide +kernel)) (fun _ => kitAny_cons (b := true) (kit_ty (by decide +kernel)) (fun z => nomatch z) (fun _ => rfl)) (fun z => nomatch z), true, rfl, iteT ?_⟩
        refine ⟨_, rfl, _, _, _, _, false, rfl, .ty _, .base (.lst ha), kit_ty (by decide +kernel), _, rfl, _, _, _, _, false, rfl, .ty _, .base (.lst hb), kit_ty (by decide +kernel), rfl, false, rfl, iteF ?_⟩
        refine ⟨_, rfl, _, _, _, _, true, rfl, .ty _, .base (.lst ha), kit_ty (by decide +kernel), _, rfl, _, _, _, _, true, rfl, .ty _, .base (.lst hb), kit_ty (by decide +kernel), rfl, false, rfl, iteF ?_⟩
        refine ⟨_, rfl, a, xs, rfl, .inl (SqL.of ha), _, rfl, b, ys, rfl, .inl (SqL.of hb), rfl, true, by rw [hl2, decide_eq_true rfl], iteT ?_⟩
        refine ⟨_, rfl, _, rfl, a, b, xs, ys, rfl, .inl ⟨SqL.of ha, SqL.of hb, fun D nD => ?_⟩⟩
        refine fin (Itz K a b) D H1 _ (Same.refl _) nD (fun i H s u v h1 h2 => ⟨xs, ys, u, v, SqL.of (s _ _ ha), SqL.of (s _ _ hb), h1, h2⟩) (fun H s => ⟨xs, ys, SqL.of (s _ _ ha), SqL.of (s _ _ hb), .inl (Nat.le_refl _)⟩) ?_ ?_
        · rintro i H v H' u w s h1 h2 ⟨T, u', w', rfl, nT, rfl, f1, f2⟩
          have e1 : u = u' := Option.some.inj (h1.symm.trans (f1 xs (SqL.of (s _ _ ha))))
          have e2 : w = w' := Option.some.inj (h2.symm.trans (f2 ys (SqL.of (s _ _ hb))))
          rw [e1, e2]
          exact ⟨T, rfl, nT, rfl⟩
        · intro H3 bs s3 eD ab
          refine ⟨D, bs, rfl, SqL.of eD, ?_⟩
          rw [ab]
          exact q H3 s3
theorem same_none {f : Addr} {fd : FuncData} : FnOk P w K mg base CX0 0 f fd ["_law_found", "_law_due"] (spSame 0) := by
  have no : ∀ vs H Q E, ¬ spSame 0 vs H Q E := fun vs H Q E h => by
    obtain ⟨x, y, d, _, h1, _⟩ := h
    omega
  exact ⟨fun vs H Q E h => absurd h (no vs H Q E), fun A outer s H args us vs Q E _ _ _ _ h => absurd h (no vs H Q E)⟩
theorem ok_same {f : Addr} {fd : FuncData} (F : Fun K "_law_same" "_law_same" sSame f fd) (T : TB mg) (bS : Binds K fd ["_law_found", "_law_due"] []) (mS : mg "_law_same" = some (.ref f)) :
    ∀ n : Nat, FnOk P w K mg base CX0 n f fd ["_law_found", "_law_due"] (spSame n)
  | 0 => same_none
  | n + 1 => ok_same_step F T bS mS (ok_same F T bS mS n)
end
end K02


set_option Elab.async false
set_option linter.all false
set_option maxRecDepth 100000
set_option maxHeartbeats 4000000
namespace K02
open PySem PySem.Spec PyProof.Rows L2
/-! ### two rules: a list extended by a tuple; x in a tuple of data -/
theorem extend_tup (l : Addr) (items : Array Value) (n : Nat) (b : Addr) (items2 : Array Value) (n2 : Nat) (dd : Option Addr) (sl : Array (Option Value)) (h0 : ¬(!items.isEmpty && Builtin.List.listTooLong (items.size + items2.size)) = true) (h1 : items.size ≤ sizeLine) (h2 : items.size + items2.size ≤ sizeLine + 1) :
    Meets (Builtin.«list.extend» ⟨[.ref l, .ref b], []⟩) (fun _ R s => s.heap.get? l = some { cls := .type "list", dict := none, data := .seq items n, slots := #[] } ∧ s.heap.get? b = some ⟨.type "tuple", dd, .seq items2 n2, sl⟩ ∧
      R (.ok (.ret Value.none)) { s with heap := s.heap.update l (Obj.mapSeq fun x => x ++ items2), toks := s.toks }) := .of_wp fun prog w A R s h => by
  obtain ⟨hp, g, d, tk, os⟩ := s
  obtain ⟨hl, hb, h⟩ := h
  have f1 := AutoSeq1.idx_int
  have f2 := AutoSeq1.sub_tuple_tuple
  have f3 := AutoSeq1.sub_list_list
  have f4 := AutoSeq1.sub_tuple_list
  have f5 := AutoSeq1.sub_list_tuple
  have hz : (items ++ items2).size ≤ sizeLine + 1 := by rw [Array.size_append]; exact h2
  wp_walk using (wpAny_updateSeq hl rfl (hz := h1) (_hz' := hz)), AutoSeq1.wpAny_loadPart' hl, AutoSeq1.wpAny_loadPart' hb
  exact ⟨_, rfl, h⟩
def rExtendT (K : PySem.W.Frag) : V → List V → Hp → VK → Prop := fun x vs H Q => ∃ (l b : Addr) (xs zs : List V), x = .ref l ∧ vs = [.ref b] ∧ H l = some (.lst xs) ∧ SqT K H b zs ∧ xs.length + zs.length ≤ sizeLine ∧ Q .non (upd H l (.lst (xs ++ zs)))
theorem mt_extendT {X : Cx} : MtM X "list.extend" (rExtendT X.K) := by
  intro pins s σ H x vs v us Q inv rx rv h
  obtain ⟨l, b, xs, zs, rfl, rfl, hl, hb, hz, q⟩ := h
  cases rx
  obtain ⟨u, rfl, ru⟩ := rv.one
  cases ru
  obtain ⟨z, its, n, r, hln, e⟩ := inv.lstM hl
  obtain ⟨its2, r2, ⟨o2, e2, c2, n2, d2⟩, _⟩ := inv.tuple hb
  have l1 : its.length = xs.length := r.length.symm
  have l2 : its2.length = zs.length := r2.length.symm
  have few : its.toArray.size + its2.toArray.size ≤ sizeLine := by rw [List.size_toArray, List.size_toArray, l1, l2]; exact hz
  have nlong : ¬ (!its.toArray.isEmpty && Builtin.List.listTooLong (its.toArray.size + its2.toArray.size)) = true := by
    rw [notLongL few, Bool.and_false]
    exact Bool.false_ne_true
  obtain ⟨oc, od, oda, osl⟩ := o2
  dsimp only at c2 d2
  subst c2 d2
  refine call_meets PySem.F.slot_list_extend ⟨_, e, rfl⟩ PySem.F.entry_list_extend (PySem.F.args_list_extend_2 _ _)
    (extend_tup l its.toArray n b its2.toArray n2 od osl nlong (by rw [List.size_toArray, l1]; omega) (by omega)) ⟨e, e2, ?_⟩
  refine ⟨.non, _, inv.lset (its' := its ++ its2) hl e (by simp) (r.append r2) ?_, rfl, q⟩
  rw [List.length_append]
  exact hz
def rInT (K : PySem.W.Frag) : R2 := fun x y H Q => ∃ d ds, Dp K H x d ∧ Dp K H y (.tuple ds) ∧ SeqAt.shaped d = true ∧ SeqAt.shaped (.tuple ds) = true ∧ Q (.bl (ds.any fun z => PyData.eqv z d)) H
theorem op_inT {X : Cx} (hu : X.A.units + 65 < cLine) : OpR X (compareOp .In) (rInT X.K) := by
  intro pins s σ H x y v u Q inv rx ry h
  obtain ⟨d, ds, hd, he, sd, se, q⟩ := h
  obtain ⟨as, r1⟩ := Dp.reads inv d x v hd rx
  obtain ⟨bs, r2⟩ := Dp.reads inv (.tuple ds) y u he ry
  exact SeqAt.in_tuple_reads r2 r1 (SeqAt.canLay_of_shaped se) (SeqAt.canLay_of_shaped sd) (room_in_shaped sd hu) ⟨.bl _, H, inv, rfl, q⟩
end K02

set_option Elab.async false
set_option linter.all false
set_option maxRecDepth 100000
set_option maxHeartbeats 4000000
namespace K02
open PySem PySem.Spec PyProof.Rows L2
/-! ### data without the heap -/
def leafD : PyData → Bool
  | .none => true
  | .bool _ => true
  | .int i => decide (-(10 ^ 60) ≤ i)
  | .str x => PyData.strOk x && decide (x.length ≤ 100)
  | _ => false
/-- of at most this depth, no row of it longer than 100 -/
def okD : Nat → PyData → Prop
  | 0, d => leafD d = true
  | n + 1, d => leafD d = true ∨ ∃ ds, (d = .tuple ds ∨ d = .list ds) ∧ ds.length ≤ 100 ∧ ∀ x ∈ ds, okD n x
theorem okD.leaf : ∀ {n : Nat} {d : PyData}, leafD d = true → okD n d
  | 0, _, h => h
  | _ + 1, _, h => .inl h
theorem okD.up : ∀ {n : Nat} {d : PyData}, okD n d → okD (n + 1) d
  | 0, _, h => .inl h
  | n + 1, d, h => by
    rcases h with h | ⟨ds, e, l, q⟩
    · exact .inl h
    · exact .inr ⟨ds, e, l, fun x hx => (q x hx).up⟩
theorem okD.le {n m : Nat} (h : n ≤ m) {d : PyData} (k : okD n d) : okD m d := by
  induction m with
  | zero =>
    have e : n = 0 := by omega
    subst e
    exact k
  | succ m ih =>
    by_cases e : n = m + 1
    · subst e
      exact k
    · exact (ih (by omega)).up
theorem okD.tup {n : Nat} {ds : List PyData} (h : okD n (.tuple ds)) : ds.length ≤ 100 ∧ ∃ m, n = m + 1 ∧ ∀ x ∈ ds, okD m x := by
  cases n with
  | zero => cases h
  | succ n =>
    rcases h with h | ⟨ds', e, l, q⟩
    · cases h
    · rcases e with e | e
      · cases e
        exact ⟨l, n, rfl, q⟩
      · cases e
theorem layAll : ∀ {ds : List PyData} {m : Nat}, (∀ x ∈ ds, x.canLay0 = true ∧ x.depth ≤ m) → PyData.canLayAll0 ds = true ∧ PyData.depthAll ds ≤ m
  | [], m, _ => ⟨by simp [PyData.canLayAll0], by simp [PyData.depthAll]⟩
  | d :: ds, m, h => by
    have h1 := h d List.mem_cons_self
    have h2 := layAll (ds := ds) (m := m) fun x hx => h x (List.mem_cons_of_mem _ hx)
    refine ⟨by simp [PyData.canLayAll0, h1.1, h2.1], ?_⟩
    simp only [PyData.depthAll]
    exact Nat.max_le.mpr ⟨h1.2, h2.2⟩
theorem leaf_lay {d : PyData} (h : leafD d = true) : d.canLay0 = true ∧ d.depth = 0 := by
  cases d with
  | none => exact ⟨by simp [PyData.canLay0], by simp [PyData.depth]⟩
  | bool b => exact ⟨by simp [PyData.canLay0], by simp [PyData.depth]⟩
  | int i => exact ⟨by simp [PyData.canLay0], by simp [PyData.depth]⟩
  | str x =>
    have h' : (PyData.strOk x && decide (x.length ≤ 100)) = true := h
    rw [Bool.and_eq_true] at h'
    exact ⟨by simp [PyData.canLay0, h'.1], by simp [PyData.depth]⟩
  | list xs => cases h
  | tuple xs => cases h
  | dict kvs => cases h
theorem okD.lay : ∀ {n : Nat} {d : PyData}, okD n d → d.canLay0 = true ∧ d.depth ≤ n + 1
  | 0, d, h => by
    have z := leaf_lay h
    exact ⟨z.1, by omega⟩
  | n + 1, d, h => by
    rcases h with h | ⟨ds, e, l, q⟩
    · have z := leaf_lay h
      exact ⟨z.1, by omega⟩
    · have z := layAll (ds := ds) (m := n + 1) fun x hx => (q x hx).lay
      rcases e with e | e
      · subst e
        refine ⟨by simp [PyData.canLay0, z.1], ?_⟩
        simp only [PyData.depth]
        omega
      · subst e
        refine ⟨by simp [PyData.canLay0, z.1], ?_⟩
        simp only [PyData.depth]
        omega
theorem okD.shaped {n : Nat} {d : PyData} (h : okD n d) (hn : n ≤ 60) : SeqAt.shaped d = true := by
  obtain ⟨h1, h2⟩ := h.lay
  unfold SeqAt.shaped
  rw [h1, decide_eq_true (show d.depth ≤ 64 by omega)]
  rfl
/-! ### what a heap holds of such data -/
theorem SqT_same {K : PySem.W.Frag} {H H' : Hp} {a : Addr} {xs : List V} (e : Same H H') (h : SqT K H a xs) : SqT K H' a xs := by
  rcases h with (h | ⟨o, h⟩) | h
  · exact .inl (.inl (e _ _ h))
  · exact .inl (.inr ⟨o, e _ _ h⟩)
  · exact .inr h
mutual
theorem dp_mono {K : PySem.W.Frag} {H H' : Hp} (s : Same H H') : ∀ (d : PyData) (v : V), Dp K H v d → Dp K H' v d
  | .none, _, h => by cases h; exact .non
  | .bool b, _, h => by cases h; exact .bl b
  | .int i, _, h => by cases h; exact .int i
  | .str x, _, h => by cases h; exact .str x
  | .list ds, _, h => by
    cases h with
    | lst a b => exact .lst (s.seq a) (dps_mono s ds _ b)
  | .tuple ds, _, h => by
    cases h with
    | tup a b => exact .tup (SqT_same s a) (dps_mono s ds _ b)
  | .dict _, _, h => by cases h
theorem dps_mono {K : PySem.W.Frag} {H H' : Hp} (s : Same H H') : ∀ (ds : List PyData) (vs : List V), DpAll K H vs ds → DpAll K H' vs ds
  | [], _, h => by cases h; exact .nil
  | d :: ds, _, h => by
    cases h with
    | cons a b => exact .cons (dp_mono s d _ a) (dps_mono s ds _ b)
end
theorem dpa_get {K : PySem.W.Frag} {H : Hp} : ∀ {vs : List V} {ds : List PyData} {i : Nat} {v : V}, DpAll K H vs ds → vs[i]? = some v → ∃ d, ds[i]? = some d ∧ Dp K H v d
  | _, _, _, _, .nil, h => by simp at h
  | _, _, 0, _, .cons a _, h => by
    simp at h
    subst h
    exact ⟨_, rfl, a⟩
  | _, _, i + 1, v, .cons _ b, h => by
    obtain ⟨d, e, q⟩ := dpa_get (i := i) (v := v) b (by simpa using h)
    exact ⟨d, by simpa using e, q⟩
theorem dpa_len {K : PySem.W.Frag} {H : Hp} : ∀ {vs : List V} {ds : List PyData}, DpAll K H vs ds → vs.length = ds.length
  | _, _, .nil => rfl
  | _, _, .cons _ b => congrArg Nat.succ (dpa_len b)
theorem dpa_drop {K : PySem.W.Frag} {H : Hp} : ∀ {vs : List V} {ds : List PyData} (n : Nat), DpAll K H vs ds → DpAll K H (vs.drop n) (ds.drop n)
  | _, _, 0, h => h
  | _, _, _ + 1, .nil => .nil
  | _, _, n + 1, .cons _ b => dpa_drop n b
/-- v stands for d, a datum of bounded depth -/
def Dv (K : PySem.W.Frag) (H : Hp) (n : Nat) (v : V) (d : PyData) : Prop := Dp K H v d ∧ okD n d
theorem Dv.mono {K : PySem.W.Frag} {H H' : Hp} {n : Nat} {v : V} {d : PyData} (s : Same H H') (h : Dv K H n v d) : Dv K H' n v d := ⟨dp_mono s d v h.1, h.2⟩
def tyD : PyData → String
  | .none => "NoneType"
  | .bool _ => "bool"
  | .int _ => "int"
  | .str _ => "str"
  | .list _ => "list"
  | .tuple _ => "tuple"
  | .dict _ => "NoneType"
theorem ty_of {K : PySem.W.Frag} {H : Hp} {v : V} {d : PyData} (h : Dp K H v d) : TyX K H v (.type (tyD d)) := by
  cases h with
  | non => exact .base .non
  | bl b => exact .base (.bl b)
  | int i => exact .base (.int i)
  | str x => exact .base (.str x)
  | lst a b =>
    rcases a with (a | ⟨o, a⟩) | ⟨o, its, n, hk, hc, _⟩
    · exact .base (.lst a)
    · exact .base (.frz a)
    · exact .kList hk hc
  | tup a b =>
    rcases a with (a | ⟨o, a⟩) | ⟨o, its, n, hk, hc, _⟩
    · exact .base (.tup a)
    · exact .fTuple a
    · exact .kTuple hk hc
def isD (T : String) (d : PyData) : Bool := (kitB (tyD d) T).getD false
theorem kit_is {K : PySem.W.Frag} {T : String} {d : PyData} (hT : ∀ t ∈ ["NoneType", "bool", "int", "str", "list", "tuple"], (kitB t T).isSome = true) : PySem.W.kitOne K (.type (tyD d)) (.type T) = some (isD T d) := by
  have m : tyD d ∈ ["NoneType", "bool", "int", "str", "list", "tuple"] := by
    cases d <;> simp [tyD]
  have h := hT _ m
  unfold isD
  cases e : kitB (tyD d) T with
  | none =>
    rw [e] at h
    cases h
  | some b => exact kit_ty e
def isTup : PyData → Bool
  | .tuple _ => true
  | _ => false
def isLst : PyData → Bool
  | .list _ => true
  | _ => false
def isStr : PyData → Bool
  | .str _ => true
  | _ => false
def isBl : PyData → Bool
  | .bool _ => true
  | _ => false
def isNum : PyData → Bool
  | .bool _ => true
  | .int _ => true
  | _ => false
theorem is_tup (d : PyData) : isD "tuple" d = isTup d := by cases d <;> (simp only [isD, tyD, isTup]; decide +kernel)
theorem is_lst (d : PyData) : isD "list" d = isLst d := by cases d <;> (simp only [isD, tyD, isLst]; decide +kernel)
theorem is_str (d : PyData) : isD "str" d = isStr d := by cases d <;> (simp only [isD, tyD, isStr]; decide +kernel)
theorem is_bl (d : PyData) : isD "bool" d = isBl d := by cases d <;> (simp only [isD, tyD, isBl]; decide +kernel)
theorem is_num (d : PyData) : isD "int" d = isNum d := by cases d <;> (simp only [isD, tyD, isNum]; decide +kernel)
theorem kits_ok : ∀ T ∈ ["tuple", "list", "str", "int", "bool"], ∀ t ∈ ["NoneType", "bool", "int", "str", "list", "tuple"], (kitB t T).isSome = true := by decide +kernel
theorem k_tup {K : PySem.W.Frag} {d : PyData} : PySem.W.kitOne K (.type (tyD d)) (.type "tuple") = some (isTup d) := by rw [← is_tup]; exact kit_is (kits_ok "tuple" (by simp))
theorem k_lst {K : PySem.W.Frag} {d : PyData} : PySem.W.kitOne K (.type (tyD d)) (.type "list") = some (isLst d) := by rw [← is_lst]; exact kit_is (kits_ok "list" (by simp))
theorem k_str {K : PySem.W.Frag} {d : PyData} : PySem.W.kitOne K (.type (tyD d)) (.type "str") = some (isStr d) := by rw [← is_str]; exact kit_is (kits_ok "str" (by simp))
theorem k_bl {K : PySem.W.Frag} {d : PyData} : PySem.W.kitOne K (.type (tyD d)) (.type "bool") = some (isBl d) := by rw [← is_bl]; exact kit_is (kits_ok "bool" (by simp))
theorem k_num {K : PySem.W.Frag} {d : PyData} : PySem.W.kitOne K (.type (tyD d)) (.type "int") = some (isNum d) := by rw [← is_num]; exact kit_is (kits_ok "int" (by simp))
end K02

set_option Elab.async false
set_option linter.all false
set_option maxRecDepth 100000
set_option maxHeartbeats 4000000
namespace K02
open PySem PySem.Spec PyProof.Rows L2
/-! ### what the program's predicates say, on data -/
def LETd : Str := "abcdefghijklmnopqrstuvwxyz"
def RESl : List Str := (["int", "quote", "flag", "global", "made", "ref", "name", "fun", "call", "let", "if", "do", "not", "first", "rest", "none", "cell", "get", "raise", "say", "seq", "plus", "minus", "times", "less", "same", "put", "set", "list", "try", "use", "true", "false", "word", "rule", "run", "where"] : List String).map Str.ofString
def signsOk (s : Str) : Bool := s.cps.toList.all fun c => decide (c ∈ LETd.cps.toList)
def nameS (s : Str) : Bool := !(decide (s ∈ RESl)) && ((decide (1 ≤ s.length) && decide (s.length ≤ 8)) && signsOk s)
def nameD : PyData → Bool
  | .str s => nameS s
  | _ => false
def intD : PyData → Bool
  | .int _ => true
  | _ => false
def idxD : PyData → Bool
  | .int i => decide (0 ≤ i)
  | _ => false
def markD : PyData → Bool
  | .tuple [w, r, .tuple ps] => nameD w && (idxD r && ps.all idxD)
  | _ => false
def pathD : PyData → Bool
  | .tuple ps => ps.all idxD
  | _ => false
def inkD : PyData → Bool
  | .tuple ms => ms.all markD
  | _ => false
theorem inV_strs {s : Str} : ∀ l : List Str, inV (.str s) (l.map V.str) = decide (s ∈ l)
  | [] => rfl
  | a :: l => by
    have ih := inV_strs (s := s) l
    by_cases e : s = a
    · subst e
      simp [inV, eqV]
    · have e1 : (a == s) = false := beq_eq_false_iff_ne.mpr fun z => e z.symm
      have e2 : (s == a) = false := beq_eq_false_iff_ne.mpr e
      unfold inV at ih ⊢
      rw [List.map_cons, List.any_cons, ih]
      simp [eqV, e1, e2, e]
/-! ### a comprehension over the signs of a text -/
theorem lc_str {x : Str} {g : TG} {tt : TT} {te : TE} {vs : List Nat} {σ : L2.St} {H1 : Hp} {D : Addr} {Qd : Hp → Prop} (Pv : Nat → Hp → Prop) (h0 : Pv 0 (upd H1 D (.lst [])))
    (hs : ∀ i c H, x.cps[i]? = some c → Pv i H → g (.str ⟨#[c]⟩) (wipe σ vs) H fun σ2 H2 => wipe σ2 vs = wipe σ vs ∧ tt σ2 H2 fun b H3 =>
      if b = true then te σ2 H3 fun y H4 => ∃ made, H4 D = some (.lst made) ∧ made.length < sizeLine ∧ Pv (i + 1) (upd H4 D (.lst (made ++ [y]))) else Pv (i + 1) H3) (hd : ∀ H, Pv x.cps.size H → Qd H) :
    ∃ Wz : Nat → Nat → Hp → Prop, (∃ m, Wz 0 m (upd H1 D (.lst []))) ∧ ∀ i m H, Wz i m H →
      ((Its x).stop i H ∧ Qd H) ∨ ((Its x).go i H ∧ ∃ Go : Hp → Prop, (∀ H', Go H' → ∃ m', m' < m ∧ Wz (i + 1) m' H') ∧ ∀ v H', (Its x).yld i H v H' → g v (wipe σ vs) H' fun σ2 H2 => wipe σ2 vs = wipe σ vs ∧ tt σ2 H2 fun b H3 =>
        if b = true then te σ2 H3 fun y H4 => ∃ made, H4 D = some (.lst made) ∧ made.length < sizeLine ∧ Go (upd H4 D (.lst (made ++ [y]))) else Go H3) := by
  refine ⟨fun i m H => m = x.cps.size - i ∧ i ≤ x.cps.size ∧ Pv i H, ⟨x.cps.size, by simp, Nat.zero_le _, h0⟩, ?_⟩
  rintro i m H ⟨rfl, hi, p⟩
  by_cases lt1 : i < x.cps.size
  · refine .inr ⟨lt1, Pv (i + 1), fun H' p' => ⟨x.cps.size - (i + 1), by omega, rfl, lt1, p'⟩, fun v H' y => ?_⟩
    obtain ⟨rfl, c, hc, rfl⟩ := y
    exact hs i c _ hc p
  · have eqi : i = x.cps.size := by omega
    subst eqi
    exact .inl ⟨Nat.le_refl _, hd H p⟩
/-- the Bools that a loop over signs has gathered -/
theorem take_all {α : Type} {p : α → Bool} {l : List α} {i : Nat} {c : α} (h : l[i]? = some c) : (l.take (i + 1)).map p = (l.take i).map p ++ [p c] := by
  rw [List.take_add_one, h, List.map_append]
  rfl
section
variable {P : Program} {w : World} {K : PySem.W.Frag} {mg : Str → Option Value} {base : Heap}
/-- a predicate on one datum -/
def spP (K : PySem.W.Frag) (spec : PyData → Bool) : Sp := fun vs H Q _ => ∃ (v : V) (d : PyData) (n : Nat), vs = [v] ∧ Dv K H n v d ∧ n ≤ 60 ∧ ∀ H', Same H H' → Q (.bl (spec d)) H'
/-- the built-ins that are still theirs -/
structure BI (mg : Str → Option Value) : Prop where
  isi : mg "isinstance" = none
  tup : mg "tuple" = none
  lst : mg "list" = none
  bool : mg "bool" = none
  int : mg "int" = none
  str : mg "str" = none
  len : mg "len" = none
  all : mg "all" = none
abbrev sName : Stmt := top 3
abbrev sInteger : Stmt := top 22
abbrev sIndex : Stmt := top 23
abbrev sMark : Stmt := top 20
abbrev sInk : Stmt := top 19
theorem scName : FnScope ["thing"] ["thing"] (defScope sName) := ⟨rfl, rfl, rfl, by decide +kernel, rfl, by decide +kernel, by decide +kernel⟩
theorem scInteger : FnScope ["thing"] ["thing"] (defScope sInteger) := ⟨rfl, rfl, rfl, by decide +kernel, rfl, by decide +kernel, by decide +kernel⟩
theorem scIndex : FnScope ["thing"] ["thing"] (defScope sIndex) := ⟨rfl, rfl, rfl, by decide +kernel, rfl, by decide +kernel, by decide +kernel⟩
abbrev sPath : Stmt := top 21
theorem scPath : FnScope ["thing", "at"] ["thing"] (defScope sPath) := ⟨rfl, rfl, rfl, by decide +kernel, rfl, by decide +kernel, by decide +kernel⟩
theorem scMark : FnScope ["thing", "word", "rule", "path"] ["thing"] (defScope sMark) := ⟨rfl, rfl, rfl, by decide +kernel, rfl, by decide +kernel, by decide +kernel⟩
theorem scInk : FnScope ["thing", "mark"] ["thing"] (defScope sInk) := ⟨rfl, rfl, rfl, by decide +kernel, rfl, by decide +kernel, by decide +kernel⟩
theorem ok_integer {f : Addr} {fd : FuncData} (F : Fun K "_is_integer" "_is_integer" sInteger f fd) (B : BI mg) : FnOk P w K mg base CX0 1 f fd ["thing"] (spP K intD) := by
  refine F.ok scInteger (fun vs H Q E h => ?_) (fun cdv A outer s H vs Q E hr h => ?_)
  · obtain ⟨v, d, n, rfl, _⟩ := h
    rfl
  · obtain ⟨v, d, n, rfl, hv, hn, q⟩ := h
    refine ⟨_, pss_one (ps_ret (pe_and (pe_callB call_isi (by rfl) B.isi (by decide +kernel) (pa_cons (pv 0) (pa_cons (pe_bltn (v := .ty "int") (by rfl) B.int (by decide +kernel) rfl) pa_nil)))
      (pe_one (pe_not (pe_callB call_isi (by rfl) B.isi (by decide +kernel) (pa_cons (pv 0) (pa_cons (pe_bltn (v := .ty "bool") (by rfl) B.bool (by decide +kernel) rfl) pa_nil))))))), ?_⟩
    refine ⟨_, rfl, v, _, _, _, _, rfl, .ty _, ty_of hv.1, k_num, _, rfl, ?_⟩
    have fin := q H (Same.refl _)
    refine ite2 (fun c => ?_) (fun c => ?_)
    · refine ⟨_, rfl, v, _, _, _, _, rfl, .ty _, ty_of hv.1, k_bl, _, rfl, ?_⟩
      have e : (!isBl d) = intD d := by
        cases d <;> first | rfl | cases c
      rw [e]
      exact fin
    · have e : intD d = false := by
        cases d <;> first | rfl | exact absurd rfl c
      rw [e] at fin
      exact fin
theorem ok_index {f g : Addr} {fd gd : FuncData} (F : Fun K "is_index" "is_index" sIndex f fd) (B : BI mg) (G : FnOk P w K mg base CX0 1 g gd ["thing"] (spP K intD)) (mG : mg "_is_integer" = some (.ref g)) (kG : PySem.W.keepIn K (.ref g) = true) (bG : Binds K gd ["thing"] []) :
    FnOk P w K mg base CX0 2 f fd ["thing"] (spP K idxD) := by
  refine F.ok scIndex (fun vs H Q E h => ?_) (fun cdv A outer s H vs Q E hr h => ?_)
  · obtain ⟨v, d, n, rfl, _⟩ := h
    rfl
  · obtain ⟨v, d, n, rfl, hv, hn, q⟩ := h
    refine ⟨_, pss_one (ps_ret (pe_and (pe_call G hr rfl mG kG bG .nil pass0 (pa_cons (pv 0) pa_nil)) (pe_one (pe_cmpR op_ge (pv 0) pe_int (nomark _))))), ?_⟩
    refine ⟨_, rfl, v, d, n, rfl, hv, hn, fun H1 s1 => ⟨_, rfl, ?_⟩⟩
    have fin := q H1 s1
    refine ite2 (fun c => ?_) (fun c => ?_)
    · cases d with
      | int i =>
        have h1 := hv.1
        cases h1
        exact ⟨_, rfl, _, _, rfl, rfl, fin⟩
      | _ => cases c
    · have e : idxD d = false := by
        cases d <;> first | rfl | exact absurd rfl c
      rw [e] at fin
      exact fin
end
end K02

set_option Elab.async false
set_option linter.all false
set_option maxRecDepth 100000
set_option maxHeartbeats 4000000
namespace K02
open PySem PySem.Spec PyProof.Rows L2
/-- a tuple of the written part -/
def KT (K : PySem.W.Frag) (a : Addr) (xs : List V) : Prop := ∃ (o : Obj) (its : Array Value) (n : Nat), K.lookup a = some o ∧ o.cls = .type "tuple" ∧ o.data = .seq its n ∧ its.size ≤ sizeLine ∧ Vals xs its.toList
theorem KT.sq {K : PySem.W.Frag} {H : Hp} {a : Addr} {xs : List V} (h : KT K a xs) : SqT K H a xs := .inr h
theorem strs_flat (l : List Str) : (l.map V.str).all flatV = true := by
  rw [List.all_eq_true]
  intro x hx
  obtain ⟨s, _, rfl⟩ := List.mem_map.mp hx
  rfl
theorem take_full {α : Type} {l : List α} {n : Nat} (h : n = l.length) : l.take n = l := by
  rw [h]
  exact List.take_length
theorem all_id_map {α : Type} {p : α → Bool} (l : List α) : (l.map p).all id = l.all p := by
  induction l with
  | nil => rfl
  | cons a l ih => simp [List.all_cons, ih]
/-! ### tables of the written part: texts to numbers -/
inductive Ents : List DictEntry → List (Str × Int) → Prop
  | nil : Ents [] []
  | cons {e : DictEntry} {es : List DictEntry} {k : Str} {i : Int} {T : List (Str × Int)} (hk : ∃ t, e.key = .str k t) (hv : ∃ t, e.val = .int i t) (r : Ents es T) : Ents (e :: es) ((k, i) :: T)
theorem Ents.find {z : Str} : ∀ {es : List DictEntry} {T : List (Str × Int)}, Ents es T →
    (∃ i t e, T.lookup z = some i ∧ es.find? (fun e => e.key.isStr z) = some e ∧ e.val = .int i t) ∨ (T.lookup z = none ∧ es.find? (fun e => e.key.isStr z) = none ∧ es.any (·.refKey) = false)
  | _, _, .nil => .inr ⟨rfl, rfl, rfl⟩
  | _, _, .cons (e := e) (k := k) ⟨t, hk⟩ ⟨t2, hv⟩ r => by
    by_cases h : z = k
    · subst h
      refine .inl ⟨_, t2, e, by simp [List.lookup], ?_, hv⟩
      rw [List.find?_cons, hk]
      simp [Value.isStr]
    · have h1 : (z == k) = false := beq_eq_false_iff_ne.mpr h
      have h2 : e.key.isStr z = false := by
        rw [hk]
        simp [Value.isStr]
        exact fun q => h q.symm
      rcases r.find (z := z) with ⟨i, t', e', a, b, c⟩ | ⟨a, b, c⟩
      · exact .inl ⟨i, t', e', by simp [List.lookup, h1, a], by rw [List.find?_cons, h2]; exact b, c⟩
      · refine .inr ⟨by simp [List.lookup, h1, a], by rw [List.find?_cons, h2]; exact b, ?_⟩
        rw [List.any_cons, c, Bool.or_false]
        unfold DictEntry.refKey
        rw [hk]
structure Tab (K : PySem.W.Frag) (w : World) (a : Addr) (es : Array DictEntry) (n : Nat) (T : List (Str × Int)) : Prop where
  kd : KDict K w a es n
  en : Ents es.toList T
theorem Tab.get {K : PySem.W.Frag} {w : World} {a : Addr} {es : Array DictEntry} {n : Nat} {T : List (Str × Int)} (h : Tab K w a es n T) (z : Str) :
    (∃ i t, T.lookup z = some i ∧ PySem.W.nsIn K a z = some (some (.int i t))) ∨ (T.lookup z = none ∧ PySem.W.nsIn K a z = some none) := by
  rcases h.en.find (z := z) with ⟨i, t, e, h1, h2, h3⟩ | ⟨h1, h2, h3⟩
  · refine .inl ⟨i, t, h1, ?_⟩
    unfold PySem.W.nsIn
    rw [h.kd.at_]
    dsimp only
    rw [h2]
    dsimp only
    rw [h3]
  · refine .inr ⟨h1, ?_⟩
    unfold PySem.W.nsIn
    rw [h.kd.at_]
    dsimp only
    rw [h2]
    dsimp only
    rw [if_neg (by rw [h3]; exact Bool.false_ne_true)]
/-- a table by its keys alone -/
inductive Kys : List DictEntry → List Str → Prop
  | nil : Kys [] []
  | cons {e : DictEntry} {es : List DictEntry} {k : Str} {T : List Str} (hk : ∃ t, e.key = .str k t) (r : Kys es T) : Kys (e :: es) (k :: T)
theorem Kys.find {z : Str} : ∀ {es : List DictEntry} {T : List Str}, Kys es T →
    (z ∈ T ∧ ∃ e, es.find? (fun e => e.key.isStr z) = some e) ∨ (z ∉ T ∧ es.find? (fun e => e.key.isStr z) = none ∧ es.any (·.refKey) = false)
  | _, _, .nil => .inr ⟨by simp, rfl, rfl⟩
  | _, _, .cons (e := e) (k := k) ⟨t, hk⟩ r => by
    by_cases h : z = k
    · subst h
      refine .inl ⟨by simp, e, ?_⟩
      rw [List.find?_cons, hk]
      simp [Value.isStr]
    · have h2 : e.key.isStr z = false := by
        rw [hk]
        simp [Value.isStr]
        exact fun q => h q.symm
      rcases r.find (z := z) with ⟨a, e', b⟩ | ⟨a, b, c⟩
      · exact .inl ⟨List.mem_cons_of_mem _ a, e', by rw [List.find?_cons, h2]; exact b⟩
      · refine .inr ⟨by simp [h, a], by rw [List.find?_cons, h2]; exact b, ?_⟩
        rw [List.any_cons, c, Bool.or_false]
        unfold DictEntry.refKey
        rw [hk]
structure KyT (K : PySem.W.Frag) (w : World) (a : Addr) (es : Array DictEntry) (n : Nat) (T : List Str) : Prop where
  kd : KDict K w a es n
  en : Kys es.toList T
theorem KyT.get {K : PySem.W.Frag} {w : World} {a : Addr} {es : Array DictEntry} {n : Nat} {T : List Str} (h : KyT K w a es n T) (z : Str) :
    ∃ r, PySem.W.nsIn K a z = some r ∧ r.isSome = decide (z ∈ T) := by
  rcases h.en.find (z := z) with ⟨h1, e, h2⟩ | ⟨h1, h2, h3⟩
  · refine ⟨some e.val, ?_, by simp [h1]⟩
    unfold PySem.W.nsIn
    rw [h.kd.at_]
    dsimp only
    rw [h2]
  · refine ⟨none, ?_, by simp [h1]⟩
    unfold PySem.W.nsIn
    rw [h.kd.at_]
    dsimp only
    rw [h2]
    dsimp only
    rw [if_neg (by rw [h3]; exact Bool.false_ne_true)]
/-! ### signs -/
theorem sg1 : ∀ c, c < 128 → Unicode.isAlpha c = true → (Unicode.isUpper c || Unicode.isTitle c) = false → c ∈ LETd.cps.toList := by decide +kernel
theorem sg2 : ∀ c ∈ LETd.cps.toList, c < 128 ∧ Unicode.isAlpha c = true ∧ Unicode.isLower c = true ∧ (Unicode.isUpper c || Unicode.isTitle c) = false := by decide +kernel
theorem len_cps {x : Str} : x.cps.toList.length = x.length := Array.length_toList ..
theorem alpha_iff {x : Str} : Txt.isalpha x = true ↔ 0 < x.length ∧ ∀ c ∈ x.cps.toList, Unicode.isAlpha c = true := by
  unfold Txt.isalpha
  rw [← Array.all_toList, Bool.and_eq_true, decide_eq_true_iff, List.all_eq_true]
theorem ascii_iff {x : Str} : Txt.isascii x = true ↔ ∀ c ∈ x.cps.toList, c < 128 := by
  unfold Txt.isascii
  rw [← Array.all_toList, List.all_eq_true]
  constructor
  · intro h c hc
    exact of_decide_eq_true (h c hc)
  · intro h c hc
    exact decide_eq_true (h c hc)
theorem lower_iff {x : Str} : Txt.islower x = true ↔ (∃ c ∈ x.cps.toList, Unicode.isLower c = true) ∧ ∀ c ∈ x.cps.toList, (Unicode.isUpper c || Unicode.isTitle c) = false := by
  unfold Txt.islower
  rw [← Array.any_toList, ← Array.any_toList, Bool.and_eq_true, List.any_eq_true]
  refine and_congr Iff.rfl ?_
  rw [Bool.not_eq_true', List.any_eq_false]
  constructor
  · intro h c hc
    exact Bool.eq_false_iff.mpr (h c hc)
  · intro h c hc
    exact Bool.eq_false_iff.mp (h c hc)
theorem signs_iff {x : Str} : (0 < x.length ∧ signsOk x = true) ↔ (Txt.isalpha x = true ∧ Txt.islower x = true ∧ Txt.isascii x = true) := by
  rw [alpha_iff, ascii_iff, lower_iff]
  unfold signsOk
  rw [List.all_eq_true]
  constructor
  · rintro ⟨h0, h⟩
    have h' : ∀ c ∈ x.cps.toList, c ∈ LETd.cps.toList := fun c hc => of_decide_eq_true (h c hc)
    have hp : ∃ c, c ∈ x.cps.toList := by
      rw [← len_cps] at h0
      exact List.exists_mem_of_length_pos h0
    obtain ⟨c, hc⟩ := hp
    exact ⟨⟨h0, fun c hc => (sg2 c (h' c hc)).2.1⟩, ⟨⟨c, hc, (sg2 c (h' c hc)).2.2.1⟩, fun c hc => (sg2 c (h' c hc)).2.2.2⟩, fun c hc => (sg2 c (h' c hc)).1⟩
  · rintro ⟨⟨h0, ha⟩, ⟨_, hu⟩, h128⟩
    exact ⟨h0, fun c hc => decide_eq_true (sg1 c (h128 c hc) (ha c hc) (hu c hc))⟩
theorem mt_islower {X : Cx} : MtR X "str.islower" (fun x xs H Q => ∃ a, x = .str a ∧ xs = [] ∧ True ∧ Q (.bl (Txt.islower a)) H) :=
  mt0 (C := fun _ => True) (g := fun a => .bl (Txt.islower a)) fun _ _ s _ _ h => PySem.SC.islower (h _ s.toks rfl)
theorem mt_isascii {X : Cx} : MtR X "str.isascii" (fun x xs H Q => ∃ a, x = .str a ∧ xs = [] ∧ True ∧ Q (.bl (Txt.isascii a)) H) :=
  mt0 (C := fun _ => True) (g := fun a => .bl (Txt.isascii a)) fun _ _ s _ _ h => PySem.SC.isascii (h _ s.toks rfl)
section
variable {P : Program} {w : World} {K : PySem.W.Frag} {mg : Str → Option Value} {base : Heap}
/-- the program's constants for names -/
structure CN (K : PySem.W.Frag) (w : World) (mg : Str → Option Value) (aR : Addr) (eR : Array DictEntry) (nR : Nat) (tL : Tok) : Prop where
  res : mg "RESERVED" = some (.ref aR)
  kres : KyT K w aR eR nR RESl
  long : mg "LONGEST_NAME" = some (.int 8 tL)
theorem ok_name {f aR : Addr} {eR : Array DictEntry} {nR : Nat} {tL : Tok} {fd : FuncData} (F : Fun K "is_name" "is_name" sName f fd) (B : BI mg) (C : CN K w mg aR eR nR tL) : FnOk P w K mg base CX0 1 f fd ["thing"] (spP K nameD) := by
  refine F.ok scName (fun vs H Q E h => ?_) (fun cdv A outer s H vs Q E hr h => ?_)
  · obtain ⟨v, d, n, rfl, _⟩ := h
    rfl
  · obtain ⟨v, d, n, rfl, hv, hn, q⟩ := h
    refine ⟨_, pss_cons (ps_if (PW.pt (pw_or (pt_not (pt_val (pe_callB call_isi (by rfl) B.isi (by decide +kernel) (pa_cons (pv 0) (pa_cons (pe_bltn (v := .ty "str") (by rfl) B.str (by decide +kernel) rfl) pa_nil)))))
        (pw_or (pt_cmpR op_gt (pe_callB call_len_str rfl B.len PySem.boot_len (pa_cons (pv 0) pa_nil)) (pe_glob (v := .int 8) rfl C.long ⟨_, rfl⟩) (nomark _))
        (pw_or1 (pt_not (pt_val (pe_bm0 PySem.F.plainAttrs_str PySem.F.slot_str_isalpha PySem.F.type_str_isalpha mt_isalpha (pv 0)))))))) (pss_one (ps_ret pe_bl)) pss_nil)
      (pss_one (ps_ret (pe_and (pe_bm0 PySem.F.plainAttrs_str PySem.F.slot_str_islower PySem.F.type_str_islower mt_islower (pv 0))
        (pe_and (pe_bm0 PySem.F.plainAttrs_str PySem.F.slot_str_isascii PySem.F.type_str_isascii mt_isascii (pv 0))
          (pe_one (pe_cmpR (op_notIn_kd C.kres.kd) (pv 0) (pe_glob (v := .ref aR) rfl C.res rfl) (by rfl))))))), ?_⟩
    refine ⟨_, rfl, v, _, _, _, _, rfl, .ty _, ty_of hv.1, k_str, _, rfl, ?_⟩
    have fin := q H (Same.refl _)
    cases d with
    | str x =>
      have h1 := hv.1
      cases h1
      have hx : x.length ≤ 100 := by
        have z := hv.2
        have z' : leafD (.str x) = true := by
          cases n with
          | zero => exact z
          | succ n =>
            rcases z with z | ⟨ds, e, _⟩
            · exact z
            · rcases e with e | e <;> cases e
        have z2 : (PyData.strOk x && decide (x.length ≤ 100)) = true := z'
        rw [Bool.and_eq_true] at z2
        exact of_decide_eq_true z2.2
      refine iteF ?_
      have fin' : Q (.bl (!(decide (x ∈ RESl)) && ((decide (1 ≤ x.length) && decide (x.length ≤ 8)) && signsOk x))) H := fin
      have no : ¬ (x.length ≤ 8 ∧ (0 < x.length ∧ signsOk x = true)) → Q (.bl false) H := fun h => by
        have e : ((decide (1 ≤ x.length) && decide (x.length ≤ 8)) && signsOk x) = false := by
          rw [Bool.eq_false_iff]
          intro h2
          rw [Bool.and_eq_true, Bool.and_eq_true] at h2
          exact h ⟨of_decide_eq_true h2.1.2, of_decide_eq_true h2.1.1, h2.2⟩
        rw [e, Bool.and_false] at fin'
        exact fin'
      refine ⟨_, rfl, x, rfl, Nat.le_of_lt (small1000 (by omega)), _, _, rfl, rfl, _, rfl, ?_⟩
      refine ite2 (fun c => ?_) (fun c => ?_)
      · have c' : (8 : Int) < (x.length : Int) := of_decide_eq_true c
        exact no fun h => by omega
      · have c8 : x.length ≤ 8 := by
          have c' : ¬ (8 : Int) < (x.length : Int) := fun h => c (decide_eq_true h)
          omega
        refine ⟨_, rfl, rfl, x, rfl, rfl, trivial, _, rfl, ?_⟩
        refine ite2 (fun c1 => ?_) (fun c1 => ?_)
        · have e1 : Txt.isalpha x = false := by simpa using c1
          refine no fun h => ?_
          rw [(signs_iff.mp h.2).1] at e1
          cases e1
        · have e1 : Txt.isalpha x = true := by simpa using c1
          refine ⟨_, rfl, rfl, x, rfl, rfl, trivial, _, rfl, ?_⟩
          refine ite2 (fun c2 => ?_) (fun c2 => ?_)
          · refine ⟨_, rfl, rfl, x, rfl, rfl, trivial, _, rfl, ?_⟩
            refine ite2 (fun c3 => ?_) (fun c3 => ?_)
            · obtain ⟨r, hr1, hr2⟩ := C.kres.get x
              refine ⟨_, rfl, x, r, rfl, rfl, hr1, ?_⟩
              have g := signs_iff.mpr ⟨e1, c2, c3⟩
              rw [decide_eq_true (show 1 ≤ x.length from g.1), decide_eq_true c8, g.2] at fin'
              rw [hr2]
              simpa using fin'
            · refine no fun h => c3 (signs_iff.mp h.2).2.2
          · refine no fun h => c2 (signs_iff.mp h.2).2.1
    | _ => exact iteT fin
end
end K02

set_option Elab.async false
set_option linter.all false
set_option maxRecDepth 100000
set_option maxHeartbeats 4000000
namespace K02
open PySem PySem.Spec PyProof.Rows L2
/-- all([f(x) for x in t]), t a tuple in a slot, f a predicate on data -/
theorem all_tup {K : PySem.W.Frag} {σ : L2.St} {H : Hp} {Q : VK} {i j n : Nat} {a : Addr} {xs : List V} {ds : List PyData} {spec : PyData → Bool} (hi : σ[i]? = some (some (.ref a))) (hs : SqT K H a xs) (hd : DpAll K H xs ds)
    (ok : ∀ d ∈ ds, okD n d) (hn : n ≤ 60) (hl : ds.length ≤ 100) (hj : ∀ v, ((wipe σ [j]).set j (some v))[j]? = some (some v)) (hw : ∀ v, wipe ((wipe σ [j]).set j (some v)) [j] = wipe σ [j]) (q : ∀ H', Same H H' → Q (.bl (ds.all spec)) H') :
    tCB (rAll K) (tCons (tLc (iTup K (tVar i)) (gName j) tYes (tCall (spP K spec) [] E0 (tCons (tVar j) tNil)) [j]) tNil) σ H Q := by
  have len := dpa_len hd
  refine ⟨_, hi, a, rfl, ⟨xs, hs⟩, fun D nD => ?_⟩
  refine lc_tup (K := K) (a := a) (xs := xs) (fun k H2 => Same H H2 ∧ H2 D = some (.lst (((ds.take k).map spec).map V.bl))) ⟨same_new nD, upd_same⟩ (fun k H2 _ p => SqT_same p.1 hs) ?_ ?_
  · rintro k v H2 hv ⟨s2, eD⟩
    obtain ⟨d, e, hvd⟩ := dpa_get hd hv
    refine ⟨hw v, ?_⟩
    dsimp only [tYes]
    refine iteT ?_
    refine ⟨v, hj v, v, d, n, rfl, ⟨dp_mono s2 d v hvd, ok d (List.mem_of_getElem? e)⟩, hn, fun H3 s3 => ⟨_, s3 _ _ eD, ?_, fun b o z => ?_, ?_⟩⟩
    · rw [List.length_map, List.length_map, List.length_take]
      exact small1000 (by omega)
    · by_cases hb : b = D
      · rw [hb, nD] at z
        cases z
      · rw [upd_ne hb]
        exact s3 _ _ (s2 _ _ z)
    · rw [upd_same, take_all e, List.map_append]
      rfl
  · rintro H2 ⟨s2, eD⟩
    rw [take_full len] at eD
    refine ⟨D, _, rfl, SqL.of eD, ?_⟩
    rw [all_id_map]
    exact q H2 s2
section
variable {P : Program} {w : World} {K : PySem.W.Frag} {mg : Str → Option Value} {base : Heap}
structure Cal (P : Program) (w : World) (K : PySem.W.Frag) (mg : Str → Option Value) (base : Heap) (x : Str) (k : Nat) (f : Addr) (fd : FuncData) (ps : List Str) (ds : List Value) (sp : Sp) : Prop where
  G : FnOk P w K mg base CX0 k f fd ps sp
  m : mg x = some (.ref f)
  k : PySem.W.keepIn K (.ref f) = true
  b : Binds K fd ps ds
theorem mark_len {ds : List PyData} (h : ds.length ≠ 3) : markD (.tuple ds) = false := by
  match ds, h with
  | [], _ => simp [markD]
  | [_], _ => simp [markD]
  | [_, _], _ => simp [markD]
  | [_, _, _], h => exact absurd rfl h
  | _ :: _ :: _ :: _ :: _, _ => simp [markD]
theorem mark_is {w r p : PyData} : markD (.tuple [w, r, p]) = (nameD w && (idxD r && pathD p)) := by
  cases p <;> simp [markD, pathD]
theorem ok_path {f fI : Addr} {fd dI : FuncData} (F : Fun K "is_path" "is_path" sPath f fd) (B : BI mg) (CI : Cal P w K mg base "is_index" 2 fI dI ["thing"] [] (spP K idxD)) : FnOk P w K mg base CX0 3 f fd ["thing"] (spP K pathD) := by
  refine F.ok scPath (fun vs H Q E h => ?_) (fun cdv A outer s H vs Q E hr h => ?_)
  · obtain ⟨v, d, n, rfl, _⟩ := h
    rfl
  · obtain ⟨v, d, n, rfl, hv, hn, q⟩ := h
    refine ⟨_, pss_one (ps_ret (pe_and (pe_callB call_isi (by rfl) B.isi (by decide +kernel) (pa_cons (pv 0) (pa_cons (pe_bltn (v := .ty "tuple") (by rfl) B.tup (by decide +kernel) rfl) pa_nil)))
      (pe_one (pe_callB (cr_all rfl) (by rfl) B.all (by decide +kernel) (pa_cons
        (pe_lc (own := [("at", 1)]) (g := gName 1) (tt := tYes) rfl scPath.nd (pi_tup (pv 0)) (blkOk_by (N := ["thing", "at"]) (sc := defScope sPath) (by decide +kernel))
          (fun _ _ _ _ _ => pg_name (i := 1) scPath.nd rfl (Or.inl rfl)) (fun _ _ _ _ _ => pts_nil) (fun _ _ _ _ _ => pe_call CI.G hr rfl CI.m CI.k CI.b .nil pass0 (pa_cons (pv 1) pa_nil))) pa_nil))))), ?_⟩
    refine ⟨_, rfl, v, _, _, _, _, rfl, .ty _, ty_of hv.1, k_tup, _, rfl, ?_⟩
    cases d with
    | tuple ds =>
      obtain ⟨hl, m, rfl, hm⟩ := hv.2.tup
      have h1 := hv.1
      cases h1 with
      | @tup a xs _ hs hd =>
        refine iteT ?_
        exact all_tup (i := 0) (j := 1) rfl hs hd hm (by omega) hl (fun _ => rfl) (fun _ => rfl) q
    | _ => exact iteF (q H (Same.refl _))
theorem ok_mark {f fN fI fP : Addr} {fd dN dI dP : FuncData} (F : Fun K "_is_mark" "_is_mark" sMark f fd) (B : BI mg) (CN : Cal P w K mg base "is_name" 1 fN dN ["thing"] [] (spP K nameD)) (CI : Cal P w K mg base "is_index" 2 fI dI ["thing"] [] (spP K idxD))
    (CP : Cal P w K mg base "is_path" 3 fP dP ["thing"] [] (spP K pathD)) :
    FnOk P w K mg base CX0 4 f fd ["thing"] (spP K markD) := by
  refine F.ok scMark (fun vs H Q E h => ?_) (fun cdv A outer s H vs Q E hr h => ?_)
  · obtain ⟨v, d, n, rfl, _⟩ := h
    rfl
  · obtain ⟨v, d, n, rfl, hv, hn, q⟩ := h
    have hr1 : Room 1 _ := hr.mono (by decide)
    have hr2 : Room 2 _ := hr.mono (by decide)
    refine ⟨_, pss_cons (ps_if (PW.pt (pw_or (pt_not (pt_val (pe_callB call_isi (by rfl) B.isi (by decide +kernel) (pa_cons (pv 0) (pa_cons (pe_bltn (v := .ty "tuple") (by rfl) B.tup (by decide +kernel) rfl) pa_nil)))))
        (pw_or1 (pt_cmpR op_ne (pe_callB call_len_seq (by rfl) B.len PySem.boot_len (pa_cons (pv 0) pa_nil)) pe_int (nomark _))))) (pss_one (ps_ret pe_bl)) pss_nil)
      (pss_cons (ps_asg (pv 0) (pg_tup rfl (pgs_cons (pg_name (i := 1) scMark.nd rfl (.inl rfl)) (pgs_cons (pg_name (i := 2) scMark.nd rfl (.inl rfl)) (pgs_cons (pg_name (i := 3) scMark.nd rfl (.inl rfl)) pgs_nil)))))
      (pss_one (ps_ret (pe_and (pe_call CN.G hr1 rfl CN.m CN.k CN.b .nil pass0 (pa_cons (pv 1) pa_nil)) (pe_and (pe_call CI.G hr2 rfl CI.m CI.k CI.b .nil pass0 (pa_cons (pv 2) pa_nil))
        (pe_one (pe_call CP.G hr rfl CP.m CP.k CP.b .nil pass0 (pa_cons (pv 3) pa_nil)))))))), ?_⟩
    refine ⟨_, rfl, v, _, _, _, _, rfl, .ty _, ty_of hv.1, k_tup, _, rfl, ?_⟩
    have fin := q H (Same.refl _)
    cases d with
    | tuple ds =>
      obtain ⟨hl, m, rfl, hm⟩ := hv.2.tup
      have h1 := hv.1
      cases h1 with
      | @tup a xs _ hs hd =>
        have len := dpa_len hd
        refine iteF ?_
        refine ⟨_, rfl, a, xs, rfl, .inr hs, rfl, _, rfl, ?_⟩
        refine ite2 (fun c => ?_) (fun c => ?_)
        · have n3 : ds.length ≠ 3 := fun z => by
            rw [len, z] at c
            exact absurd c (by decide)
          have e := mark_len n3
          rw [e] at fin
          exact fin
        · have l3 : ds.length = 3 := by
            have z : (!decide (V.int ((xs.length : Nat) : Int) = V.int 3)) = false := Bool.eq_false_iff.mpr c
            have z2 : decide (V.int ((xs.length : Nat) : Int) = V.int 3) = true := by simpa using z
            have z3 := V.int.inj (of_decide_eq_true z2)
            omega
          match ds, l3, hd, hm, fin, q with
          | [dw, dr, dp], _, hd, hm, fin, q =>
            cases hd with
            | @cons vw vs1 _ _ ew hd => cases hd with
              | @cons vr vs2 _ _ er hd => cases hd with
                | @cons vp vs3 _ _ ep hd =>
                  cases hd
                  refine ⟨_, rfl, a, _, rfl, hs, rfl, _, _, rfl, _, _, rfl, _, _, rfl, rfl, ?_⟩
                  have ow := hm dw (by simp)
                  have or' := hm dr (by simp)
                  have op := hm dp (by simp)
                  have fq : ∀ H', Same H H' → Q (.bl (nameD dw && (idxD dr && pathD dp))) H' := fun H' s' => by
                    rw [← mark_is]
                    exact q H' s'
                  refine ⟨_, rfl, vw, dw, m, rfl, ⟨ew, ow⟩, by omega, fun H1 s1 => ⟨_, rfl, ?_⟩⟩
                  refine ite2 (fun c1 => ?_) (fun c1 => ?_)
                  · rw [show nameD dw = true from c1] at fq
                    refine ⟨_, rfl, vr, dr, m, rfl, ⟨dp_mono s1 dr vr er, or'⟩, by omega, fun H2 s2 => ⟨_, rfl, ?_⟩⟩
                    refine ite2 (fun c2 => ?_) (fun c2 => ?_)
                    · rw [show idxD dr = true from c2] at fq
                      refine ⟨_, rfl, vp, dp, m, rfl, ⟨dp_mono (s1.trans s2) dp vp ep, op⟩, by omega, fun H3 s3 => ?_⟩
                      exact fq H3 (s1.trans (s2.trans s3))
                    · rw [show idxD dr = false from Bool.eq_false_iff.mpr c2] at fq
                      exact fq H2 (s1.trans s2)
                  · rw [show nameD dw = false from Bool.eq_false_iff.mpr c1] at fq
                    exact fq H1 s1
    | _ => exact iteT fin
theorem ok_ink {f fM : Addr} {fd dM : FuncData} (F : Fun K "_is_ink" "_is_ink" sInk f fd) (B : BI mg) (CM : Cal P w K mg base "_is_mark" 4 fM dM ["thing"] [] (spP K markD)) : FnOk P w K mg base CX0 5 f fd ["thing"] (spP K inkD) := by
  refine F.ok scInk (fun vs H Q E h => ?_) (fun cdv A outer s H vs Q E hr h => ?_)
  · obtain ⟨v, d, n, rfl, _⟩ := h
    rfl
  · obtain ⟨v, d, n, rfl, hv, hn, q⟩ := h
    refine ⟨_, pss_one (ps_ret (pe_and (pe_callB call_isi (by rfl) B.isi (by decide +kernel) (pa_cons (pv 0) (pa_cons (pe_bltn (v := .ty "tuple") (by rfl) B.tup (by decide +kernel) rfl) pa_nil)))
      (pe_one (pe_callB (cr_all rfl) (by rfl) B.all (by decide +kernel) (pa_cons
        (pe_lc (own := [("mark", 1)]) (g := gName 1) (tt := tYes) rfl scInk.nd (pi_tup (pv 0)) (blkOk_by (N := ["thing", "mark"]) (sc := defScope sInk) (by decide +kernel))
          (fun _ _ _ _ _ => pg_name (i := 1) scInk.nd rfl (Or.inl rfl)) (fun _ _ _ _ _ => pts_nil) (fun _ _ _ _ _ => pe_call CM.G hr rfl CM.m CM.k CM.b .nil pass0 (pa_cons (pv 1) pa_nil))) pa_nil))))), ?_⟩
    refine ⟨_, rfl, v, _, _, _, _, rfl, .ty _, ty_of hv.1, k_tup, _, rfl, ?_⟩
    cases d with
    | tuple ds =>
      obtain ⟨hl, m, rfl, hm⟩ := hv.2.tup
      have h1 := hv.1
      cases h1 with
      | @tup a xs _ hs hd =>
        refine iteT ?_
        exact all_tup (i := 0) (j := 1) rfl hs hd hm (by omega) hl (fun _ => rfl) (fun _ => rfl) q
    | _ => exact iteF (q H (Same.refl _))
end
end K02

set_option Elab.async false
set_option linter.all false
set_option maxRecDepth 100000
set_option maxHeartbeats 4000000
namespace K02
open PySem PySem.Spec PyProof.Rows L2
/-! ### the specs -/
def SINGl : List Str := (["int", "quote", "flag", "global", "ref", "name"] : List String).map Str.ofString
def LITl : List Str := (["int", "quote", "flag", "global", "made", "ref"] : List String).map Str.ofString
def MADEl : List Str := (["int", "quote", "flag", "global", "made", "ref", "fun", "use"] : List String).map Str.ofString
def SZl : List (Str × Int) := ([("do", 1), ("not", 1), ("first", 1), ("rest", 1), ("none", 1), ("cell", 1), ("get", 1), ("raise", 1), ("say", 1), ("let", 2), ("seq", 2), ("plus", 2), ("minus", 2), ("times", 2), ("less", 2), ("same", 2), ("put", 2), ("set", 2), ("try", 2), ("if", 3)] : List (String × Int)).map fun p => (Str.ofString p.1, p.2)
def LSl : List (Str × Int) := ([("list", 0), ("call", 1)] : List (String × Int)).map fun p => (Str.ofString p.1, p.2)
def refD : PyData → Bool
  | .int i => decide (1 ≤ i)
  | _ => false
def strIn (l : List Str) : PyData → Bool
  | .str s => decide (s ∈ l)
  | _ => false
def madeD : PyData → Bool
  | .tuple [d, _, _] => strIn MADEl d
  | _ => false
def singleS (s : Str) (d : PyData) : Bool :=
  if s = "flag" then isBl d else if s = "int" then intD d else if s = "ref" then refD d else if s = "name" then idxD d else nameD d
def useL : List PyData → Bool
  | w :: .int i :: rest => nameD w && (decide (0 ≤ i) && decide ((rest.length : Int) ≤ i))
  | _ => false
def funL : List PyData → Bool
  | [.int i, _] => decide (0 ≤ i) && decide (i ≤ 4)
  | _ => false
def oneL (s : Str) : List PyData → Bool
  | [d] => singleS s d
  | _ => false
def fitsD (s : Str) (ds : List PyData) : Bool :=
  match SZl.lookup s with
  | some i => decide ((ds.length : Int) = i)
  | none => if s = "made" then ds.all madeD else
    match LSl.lookup s with
    | some i => decide (i ≤ (ds.length : Int))
    | none => if s = "fun" then funL ds else if s = "use" then useL ds else decide (s ∈ SINGl) && oneL s ds
section
variable {P : Program} {w : World} {K : PySem.W.Frag} {mg : Str → Option Value} {base : Heap}
abbrev sSingle : Stmt := top 16
abbrev sUse : Stmt := top 17
abbrev sMadeOf : Stmt := top 18
theorem scSingle : FnScope ["head", "item"] ["head", "item"] (defScope sSingle) := ⟨rfl, rfl, rfl, by decide +kernel, rfl, by decide +kernel, by decide +kernel⟩
theorem scUse : FnScope ["items"] ["items"] (defScope sUse) := ⟨rfl, rfl, rfl, by decide +kernel, rfl, by decide +kernel, by decide +kernel⟩
theorem scMadeOf : FnScope ["thing"] ["thing"] (defScope sMadeOf) := ⟨rfl, rfl, rfl, by decide +kernel, rfl, by decide +kernel, by decide +kernel⟩
theorem itT {c : Bool} {A B : Prop} (hc : c = true) (h : A) : if c = true then A else B := by
  rw [hc]
  exact iteT h
theorem itF {c : Bool} {A B : Prop} (hc : c = false) (h : B) : if c = true then A else B := by
  rw [hc]
  exact iteF h
/-- a text is another one or not, as a test -/
theorem str_test {s z : Str} {A B : Prop} (h1 : s = z → A) (h2 : s ≠ z → B) : if decide (V.str s = V.str z) = true then A else B := by
  by_cases e : s = z
  · exact itT (by rw [e]; exact decide_eq_true rfl) (h1 e)
  · exact itF (decide_eq_false fun q => e (V.str.inj q)) (h2 e)
def spSingle (K : PySem.W.Frag) : Sp := fun vs H Q _ => ∃ (s : Str) (v : V) (d : PyData) (n : Nat), vs = [.str s, v] ∧ Dv K H n v d ∧ n ≤ 60 ∧ ∀ H', Same H H' → Q (.bl (singleS s d)) H'
theorem ok_single {f fN fI fX : Addr} {fd dN dI dX : FuncData} (F : Fun K "_single_fits" "_single_fits" sSingle f fd) (B : BI mg) (CN : Cal P w K mg base "is_name" 1 fN dN ["thing"] [] (spP K nameD)) (CI : Cal P w K mg base "_is_integer" 1 fI dI ["thing"] [] (spP K intD))
    (CX : Cal P w K mg base "is_index" 2 fX dX ["thing"] [] (spP K idxD)) : FnOk P w K mg base CX0 3 f fd ["head", "item"] (spSingle K) := by
  refine F.ok scSingle (fun vs H Q E h => ?_) (fun cdv A outer s H vs Q E hr h => ?_)
  · obtain ⟨z, v, d, n, rfl, _⟩ := h
    rfl
  · obtain ⟨z, v, d, n, rfl, hv, hn, q⟩ := h
    have hr1 : Room 1 _ := hr.mono (by decide)
    refine ⟨_, pss_cons (ps_if (pt_cmpR op_eq (pv 0) pe_str (nomark _)) (pss_one (ps_ret (pe_callB call_isi (by rfl) B.isi (by decide +kernel) (pa_cons (pv 1) (pa_cons (pe_bltn (v := .ty "bool") (by rfl) B.bool (by decide +kernel) rfl) pa_nil))))) pss_nil)
      (pss_cons (ps_if (pt_cmpR op_eq (pv 0) pe_str (nomark _)) (pss_one (ps_ret (pe_call CI.G hr1 rfl CI.m CI.k CI.b .nil pass0 (pa_cons (pv 1) pa_nil)))) pss_nil)
      (pss_cons (ps_if (pt_cmpR op_eq (pv 0) pe_str (nomark _)) (pss_one (ps_ret (pe_and (pe_call CI.G hr1 rfl CI.m CI.k CI.b .nil pass0 (pa_cons (pv 1) pa_nil)) (pe_one (pe_cmpR op_ge (pv 1) pe_int (nomark _)))))) pss_nil)
      (pss_cons (ps_if (pt_cmpR op_eq (pv 0) pe_str (nomark _)) (pss_one (ps_ret (pe_call CX.G hr rfl CX.m CX.k CX.b .nil pass0 (pa_cons (pv 1) pa_nil)))) pss_nil)
      (pss_one (ps_ret (pe_call CN.G hr1 rfl CN.m CN.k CN.b .nil pass0 (pa_cons (pv 1) pa_nil))))))), ?_⟩
    refine ⟨_, rfl, rfl, _, rfl, str_test (fun e1 => ?_) (fun e1 => ?_)⟩
    · refine ⟨_, rfl, v, _, _, _, _, rfl, .ty _, ty_of hv.1, k_bl, ?_⟩
      have z1 := q H (Same.refl _)
      unfold singleS at z1
      rw [if_pos e1] at z1
      exact z1
    · refine ⟨_, rfl, rfl, _, rfl, str_test (fun e2 => ?_) (fun e2 => ?_)⟩
      · refine ⟨_, rfl, v, d, n, rfl, hv, hn, fun H1 s1 => ?_⟩
        have z1 := q H1 s1
        unfold singleS at z1
        rw [if_neg e1, if_pos e2] at z1
        exact z1
      · refine ⟨_, rfl, rfl, _, rfl, str_test (fun e3 => ?_) (fun e3 => ?_)⟩
        · refine ⟨_, rfl, v, d, n, rfl, hv, hn, fun H1 s1 => ⟨_, rfl, ?_⟩⟩
          have z1 := q H1 s1
          unfold singleS at z1
          rw [if_neg e1, if_neg e2, if_pos e3] at z1
          cases d with
          | int i =>
            have h1 := hv.1
            cases h1
            exact iteT ⟨_, rfl, _, _, rfl, rfl, z1⟩
          | _ => exact iteF z1
        · refine ⟨_, rfl, rfl, _, rfl, str_test (fun e4 => ?_) (fun e4 => ?_)⟩
          · refine ⟨_, rfl, v, d, n, rfl, hv, hn, fun H1 s1 => ?_⟩
            have z1 := q H1 s1
            unfold singleS at z1
            rw [if_neg e1, if_neg e2, if_neg e3, if_pos e4] at z1
            exact z1
          · refine ⟨_, rfl, v, d, n, rfl, hv, hn, fun H1 s1 => ?_⟩
            have z1 := q H1 s1
            unfold singleS at z1
            rw [if_neg e1, if_neg e2, if_neg e3, if_neg e4] at z1
            exact z1
end
end K02

set_option Elab.async false
set_option linter.all false
set_option maxRecDepth 100000
set_option maxHeartbeats 4000000
namespace K02
open PySem PySem.Spec PyProof.Rows L2
section
variable {P : Program} {w : World} {K : PySem.W.Frag} {mg : Str → Option Value} {base : Heap}
/-- a tuple of data -/
def TupD (K : PySem.W.Frag) (H : Hp) (n : Nat) (a : Addr) (xs : List V) (ds : List PyData) : Prop := SqT K H a xs ∧ DpAll K H xs ds ∧ ds.length ≤ 100 ∧ ∀ d ∈ ds, okD n d
theorem TupD.mono {H H' : Hp} {n : Nat} {a : Addr} {xs : List V} {ds : List PyData} (s : Same H H') (h : TupD K H n a xs ds) : TupD K H' n a xs ds := ⟨SqT_same s h.1, dps_mono s ds xs h.2.1, h.2.2⟩
theorem TupD.len {H : Hp} {n : Nat} {a : Addr} {xs : List V} {ds : List PyData} (h : TupD K H n a xs ds) : xs.length = ds.length := dpa_len h.2.1
theorem TupD.get {H : Hp} {n : Nat} {a : Addr} {xs : List V} {ds : List PyData} (h : TupD K H n a xs ds) {i : Nat} {d : PyData} (e : ds[i]? = some d) : ∃ v, xs[i]? = some v ∧ Dv K H n v d := by
  have hi : i < xs.length := by
    rw [h.len]
    exact (List.getElem?_eq_some_iff.mp e).1
  obtain ⟨d', e', q⟩ := dpa_get h.2.1 (List.getElem?_eq_getElem hi)
  rw [e] at e'
  cases e'
  exact ⟨_, List.getElem?_eq_getElem hi, q, h.2.2.2 d (List.mem_of_getElem? e)⟩
theorem Dv.tup {H : Hp} {n : Nat} {v : V} {ds : List PyData} (h : Dv K H n v (.tuple ds)) : ∃ a xs m, n = m + 1 ∧ v = .ref a ∧ TupD K H m a xs ds := by
  obtain ⟨hl, m, e, hm⟩ := h.2.tup
  have h1 := h.1
  cases h1 with
  | @tup a xs _ hs hd => exact ⟨a, xs, m, e, rfl, hs, hd, hl, hm⟩
def spT (K : PySem.W.Frag) (spec : List PyData → Bool) : Sp := fun vs H Q _ => ∃ (a : Addr) (xs : List V) (ds : List PyData) (n : Nat), vs = [.ref a] ∧ TupD K H n a xs ds ∧ n ≤ 60 ∧ ∀ H', Same H H' → Q (.bl (spec ds)) H'
theorem use_short {ds : List PyData} (h : ds.length < 2) : useL ds = false := by
  match ds, h with
  | [], _ => rfl
  | [_], _ => rfl
  | _ :: _ :: _, h => simp at h; omega
theorem ok_use {f fN fX : Addr} {fd dN dX : FuncData} (F : Fun K "_is_use" "_is_use" sUse f fd) (B : BI mg) (CN : Cal P w K mg base "is_name" 1 fN dN ["thing"] [] (spP K nameD)) (CX : Cal P w K mg base "is_index" 2 fX dX ["thing"] [] (spP K idxD)) :
    FnOk P w K mg base CX0 3 f fd ["items"] (spT K useL) := by
  refine F.ok scUse (fun vs H Q E h => ?_) (fun cdv A outer s H vs Q E hr h => ?_)
  · obtain ⟨a, xs, ds, n, rfl, _⟩ := h
    rfl
  · obtain ⟨a, xs, ds, n, rfl, ht, hn, q⟩ := h
    have hr1 : Room 1 _ := hr.mono (by decide)
    have len := ht.len
    refine ⟨_, pss_cons (ps_if (PW.pt (pw_or (pt_cmpR op_lt (pe_callB call_len_seq (by rfl) B.len PySem.boot_len (pa_cons (pv 0) pa_nil)) pe_int (nomark _))
        (pw_or (pt_not (pt_val (pe_call CN.G hr1 rfl CN.m CN.k CN.b .nil pass0 (pa_cons (pe_ix ix_tup (pv 0) pe_int (fun _ _ => rfl)) pa_nil))))
        (pw_or1 (pt_not (pt_val (pe_call CX.G hr rfl CX.m CX.k CX.b .nil pass0 (pa_cons (pe_ix ix_tup (pv 0) pe_int (fun _ _ => rfl)) pa_nil)))))))) (pss_one (ps_ret pe_bl)) pss_nil)
      (pss_one (ps_ret (pe_cmpR op_le (pe_op op_sub (pe_callB call_len_seq (by rfl) B.len PySem.boot_len (pa_cons (pv 0) pa_nil)) pe_int) (pe_ix ix_tup (pv 0) pe_int (fun _ _ => rfl)) (nomark _)))), ?_⟩
    refine ⟨_, rfl, a, xs, rfl, .inr ht.1, _, _, rfl, rfl, _, rfl, ?_⟩
    refine ite2 (fun c => ?_) (fun c => ?_)
    · have c' : ((xs.length : Nat) : Int) < 2 := of_decide_eq_true c
      have z := q H (Same.refl _)
      rw [use_short (by omega)] at z
      exact z
    · have c' : ¬ ((xs.length : Nat) : Int) < 2 := fun z => c (decide_eq_true z)
      match ds, ht, len, q with
      | [], _, len, _ => exact absurd (by rw [len]; show ((0 : Nat) : Int) < 2; decide) c'
      | [_], _, len, _ => exact absurd (by rw [len]; show ((1 : Nat) : Int) < 2; decide) c'
      | dw :: dr :: rest, ht, len, q =>
        obtain ⟨vw, ew, hw⟩ := ht.get (i := 0) rfl
        obtain ⟨vr, er, hr'⟩ := ht.get (i := 1) rfl
        refine ⟨_, rfl, a, xs, _, _, rfl, rfl, ht.1, atI_nat (j := 0) ew, vw, dw, n, rfl, hw, hn, fun H1 s1 => ⟨_, rfl, ?_⟩⟩
        refine ite2 (fun c1 => ?_) (fun c1 => ?_)
        · have z := q H1 s1
          have e : useL (dw :: dr :: rest) = false := by
            have e1 : nameD dw = false := by simpa using c1
            cases dr <;> simp [useL, e1]
          rw [e] at z
          exact z
        · have e1 : nameD dw = true := by simpa using c1
          refine ⟨_, rfl, a, xs, _, _, rfl, rfl, SqT_same s1 ht.1, atI_nat (j := 1) er, vr, dr, n, rfl, hr'.mono s1, hn, fun H2 s2 => ⟨_, rfl, ?_⟩⟩
          refine ite2 (fun c2 => ?_) (fun c2 => ?_)
          · have z := q H2 (s1.trans s2)
            have e : useL (dw :: dr :: rest) = false := by
              have e2 : idxD dr = false := by simpa using c2
              cases dr with
              | int i =>
                have e3 : decide (0 ≤ i) = false := e2
                show (nameD dw && (decide (0 ≤ i) && _)) = false
                rw [e3]
                simp
              | _ => rfl
            rw [e] at z
            exact z
          · have e2 : idxD dr = true := by simpa using c2
            cases dr with
            | int i =>
              have h1 := hr'.1
              cases h1
              have z := q H2 (s1.trans s2)
              refine ⟨_, rfl, a, xs, rfl, .inr (SqT_same (s1.trans s2) ht.1), _, _, rfl, rfl, _, rfl, a, xs, _, _, rfl, rfl, SqT_same (s1.trans s2) ht.1, atI_nat (j := 1) er, _, _, rfl, rfl, ?_⟩
              have e : useL (dw :: .int i :: rest) = decide (((xs.length : Nat) : Int) - 2 ≤ i) := by
                have e3 : decide (0 ≤ i) = true := e2
                show (nameD dw && (decide (0 ≤ i) && decide ((rest.length : Int) ≤ i))) = _
                rw [e1, e3, len]
                simp only [List.length_cons, Bool.true_and]
                congr 1
                apply propext
                constructor <;> intro h <;> omega
              rw [e] at z
              exact z
            | _ => cases e2
theorem in_strs (d : PyData) : ∀ l : List Str, (l.map PyData.str).any (fun z => PyData.eqv z d) = strIn l d := by
  intro l
  induction l with
  | nil => cases d <;> rfl
  | cons a l ih =>
    rw [List.map_cons, List.any_cons, ih]
    cases d <;> simp [PyData.eqv, strIn]
    rename_i s
    by_cases e : a = s
    · simp [e]
    · have e2 : ¬ s = a := fun z => e z.symm
      simp [e, e2]
theorem strs_dp {H : Hp} : ∀ l : List Str, DpAll K H (l.map V.str) (l.map PyData.str)
  | [] => .nil
  | _ :: l => .cons (.str _) (strs_dp l)
theorem made_shaped : SeqAt.shaped (.tuple (MADEl.map PyData.str)) = true := by decide +kernel
theorem made_len {ds : List PyData} (h : ds.length ≠ 3) : madeD (.tuple ds) = false := by
  match ds, h with
  | [], _ => simp [madeD]
  | [_], _ => simp [madeD]
  | [_, _], _ => simp [madeD]
  | [_, _, _], h => exact absurd rfl h
  | _ :: _ :: _ :: _ :: _, _ => simp [madeD]
theorem ok_madeof {f aM : Addr} {fd : FuncData} (F : Fun K "_may_be_made_of" "_may_be_made_of" sMadeOf f fd) (B : BI mg) (mM : mg "MADE_OF" = some (.ref aM)) (kM : KT K aM (MADEl.map V.str)) : FnOk P w K mg base CX0 2 f fd ["thing"] (spP K madeD) := by
  refine F.ok scMadeOf (fun vs H Q E h => ?_) (fun cdv A outer s H vs Q E hr h => ?_)
  · obtain ⟨v, d, n, rfl, _⟩ := h
    rfl
  · obtain ⟨v, d, n, rfl, hv, hn, q⟩ := h
    have hu : (A.deeper (envOfC "_may_be_made_of" (defScope sMadeOf) s.heap.objs.size f cdv)).units + 65 < cLine := by
      have := hr.un
      omega
    refine ⟨_, pss_one (ps_ret (pe_and (pe_callB call_isi (by rfl) B.isi (by decide +kernel) (pa_cons (pv 0) (pa_cons (pe_bltn (v := .ty "tuple") (by rfl) B.tup (by decide +kernel) rfl) pa_nil)))
      (pe_and (pe_cmpR op_eq (pe_callB call_len_seq (by rfl) B.len PySem.boot_len (pa_cons (pv 0) pa_nil)) pe_int (nomark _))
      (pe_one (pe_cmpR (op_inT hu) (pe_ix ix_tup (pv 0) pe_int (fun _ _ => rfl)) (pe_glob (v := .ref aM) rfl mM rfl) (by rfl)))))), ?_⟩
    refine ⟨_, rfl, v, _, _, _, _, rfl, .ty _, ty_of hv.1, k_tup, _, rfl, ?_⟩
    have fin := q H (Same.refl _)
    cases d with
    | tuple ds =>
      obtain ⟨a, xs, m, rfl, rfl, ht⟩ := hv.tup
      have len := ht.len
      refine iteT ?_
      refine ⟨_, rfl, a, xs, rfl, .inr ht.1, rfl, _, rfl, ?_⟩
      refine ite2 (fun c => ?_) (fun c => ?_)
      · have l3 : ds.length = 3 := by
          have z3 := V.int.inj (of_decide_eq_true c)
          omega
        match ds, l3, ht, fin with
        | [d0, d1, d2], _, ht, fin =>
          obtain ⟨v0, e0, h0⟩ := ht.get (i := 0) rfl
          refine ⟨_, rfl, a, xs, _, _, rfl, rfl, ht.1, atI_nat (j := 0) e0, d0, MADEl.map PyData.str, h0.1, .tup kM.sq (strs_dp _), h0.2.shaped (by omega), made_shaped, ?_⟩
          rw [in_strs]
          exact fin
      · have l3 : ds.length ≠ 3 := fun z => c (by rw [len, z]; rfl)
        rw [made_len l3] at fin
        exact fin
    | _ => exact iteF fin
end
end K02

set_option Elab.async false
set_option linter.all false
set_option maxRecDepth 100000
set_option maxHeartbeats 4000000
namespace K02
open PySem PySem.Spec PyProof.Rows L2
section
variable {P : Program} {w : World} {K : PySem.W.Frag} {mg : Str → Option Value} {base : Heap}
abbrev sFits : Stmt := top 15
abbrev sKids : Stmt := top 13
theorem scFits : FnScope ["head", "items", "item"] ["head", "items"] (defScope sFits) := ⟨rfl, rfl, rfl, by decide +kernel, rfl, by decide +kernel, by decide +kernel⟩
theorem scKids : FnScope ["node", "head", "_", "items", "first"] ["node"] (defScope sKids) := ⟨rfl, rfl, rfl, by decide +kernel, rfl, by decide +kernel, by decide +kernel⟩
/-- the program's tables and constants for heads -/
structure CH (K : PySem.W.Frag) (w : World) (mg : Str → Option Value) (aZ aL aM aG : Addr) (eZ eL : Array DictEntry) (nZ nL : Nat) (tM : Tok) : Prop where
  sz : mg "SIZES" = some (.ref aZ)
  tz : Tab K w aZ eZ nZ SZl
  ls : mg "LEAST" = some (.ref aL)
  tl : Tab K w aL eL nL LSl
  ma : mg "MADE_OF" = some (.ref aM)
  ka : KT K aM (MADEl.map V.str)
  si : mg "SINGLE" = some (.ref aG)
  ki : KT K aG (SINGl.map V.str)
  mo : mg "MOST_PARAMETERS" = some (.int 4 tM)
theorem Tab.dct {a : Addr} {es : Array DictEntry} {n : Nat} {T : List (Str × Int)} {z : Str} {i : Int} {t : Tok} (h : Tab K w a es n T) (e : PySem.W.nsIn K a z = some (some (.int i t))) : KDct K w a z (.int i) := ⟨es, n, _, h.kd.at_, h.kd.lit, e, ⟨t, rfl⟩⟩
def spFits (K : PySem.W.Frag) : Sp := fun vs H Q _ => ∃ (s : Str) (a : Addr) (xs : List V) (ds : List PyData) (n : Nat), vs = [.str s, .ref a] ∧ TupD K H n a xs ds ∧ n ≤ 60 ∧ ∀ H', Same H H' → Q (.bl (fitsD s ds)) H'
theorem one_len {s : Str} {ds : List PyData} (h : ds.length ≠ 1) : oneL s ds = false := by
  match ds, h with
  | [], _ => rfl
  | [_], h => exact absurd rfl h
  | _ :: _ :: _, _ => rfl
theorem fun_len {ds : List PyData} (h : ds.length ≠ 2) : funL ds = false := by
  match ds, h with
  | [], _ => simp [funL]
  | [_], _ => simp [funL]
  | [_, _], h => exact absurd rfl h
  | _ :: _ :: _ :: _, _ => simp [funL]
theorem ok_fits {f fX fU fM fS aZ aL aM aG : Addr} {fd dX dU dM dS : FuncData} {eZ eL : Array DictEntry} {nZ nL : Nat} {tM : Tok} (F : Fun K "_items_fit" "_items_fit" sFits f fd) (B : BI mg) (C : CH K w mg aZ aL aM aG eZ eL nZ nL tM)
    (CX : Cal P w K mg base "is_index" 2 fX dX ["thing"] [] (spP K idxD)) (CU : Cal P w K mg base "_is_use" 3 fU dU ["items"] [] (spT K useL)) (CM : Cal P w K mg base "_may_be_made_of" 2 fM dM ["thing"] [] (spP K madeD))
    (CS : Cal P w K mg base "_single_fits" 3 fS dS ["head", "item"] [] (spSingle K)) : FnOk P w K mg base CX0 4 f fd ["head", "items"] (spFits K) := by
  refine F.ok scFits (fun vs H Q E h => ?_) (fun cdv A outer s H vs Q E hr h => ?_)
  · obtain ⟨z, a, xs, ds, n, rfl, _⟩ := h
    rfl
  · obtain ⟨z, a, xs, ds, n, rfl, ht, hn, q⟩ := h
    have hr2 : Room 2 _ := hr.mono (by decide)
    have len := ht.len
    refine ⟨_, pss_cons (ps_if (pt_cmpR (op_in_kd C.tz.kd) (pv 0) (pe_glob (v := .ref aZ) rfl C.sz rfl) (by rfl)) (pss_one (ps_ret (pe_cmpR op_eq (pe_callB call_len_seq (by rfl) B.len PySem.boot_len (pa_cons (pv 1) pa_nil)) (pe_ix ix_kdict (pe_glob (v := .ref aZ) rfl C.sz rfl) (pv 0) (fun _ _ => rfl)) (nomark _)))) pss_nil)
      (pss_cons (ps_if (pt_cmpR op_eq (pv 0) pe_str (nomark _)) (pss_one (ps_ret (pe_callB (cr_all rfl) (by rfl) B.all (by decide +kernel) (pa_cons
        (pe_lc (own := [("item", 2)]) (g := gName 2) (tt := tYes) rfl scFits.nd (pi_tup (pv 1)) (blkOk_by (N := ["head", "items", "item"]) (sc := defScope sFits) (by decide +kernel))
          (fun _ _ _ _ _ => pg_name (i := 2) scFits.nd rfl (Or.inl rfl)) (fun _ _ _ _ _ => pts_nil) (fun _ _ _ _ _ => pe_call CM.G hr2 rfl CM.m CM.k CM.b .nil pass0 (pa_cons (pv 2) pa_nil))) pa_nil)))) pss_nil)
      (pss_cons (ps_if (pt_cmpR (op_in_kd C.tl.kd) (pv 0) (pe_glob (v := .ref aL) rfl C.ls rfl) (by rfl)) (pss_one (ps_ret (pe_cmpR op_ge (pe_callB call_len_seq (by rfl) B.len PySem.boot_len (pa_cons (pv 1) pa_nil)) (pe_ix ix_kdict (pe_glob (v := .ref aL) rfl C.ls rfl) (pv 0) (fun _ _ => rfl)) (nomark _)))) pss_nil)
      (pss_cons (ps_if (pt_cmpR op_eq (pv 0) pe_str (nomark _)) (pss_one (ps_ret (pe_and (pe_cmpR op_eq (pe_callB call_len_seq (by rfl) B.len PySem.boot_len (pa_cons (pv 1) pa_nil)) pe_int (nomark _))
        (pe_and (pe_call CX.G hr2 rfl CX.m CX.k CX.b .nil pass0 (pa_cons (pe_ix ix_tup (pv 1) pe_int (fun _ _ => rfl)) pa_nil)) (pe_one (pe_cmpR op_le (pe_ix ix_tup (pv 1) pe_int (fun _ _ => rfl)) (pe_glob (v := .int 4) rfl C.mo ⟨_, rfl⟩) (nomark _))))))) pss_nil)
      (pss_cons (ps_if (pt_cmpR op_eq (pv 0) pe_str (nomark _)) (pss_one (ps_ret (pe_call CU.G hr rfl CU.m CU.k CU.b .nil pass0 (pa_cons (pv 1) pa_nil)))) pss_nil)
      (pss_one (ps_ret (pe_and (pe_cmpR op_in_seq (pv 0) (pe_glob (v := .ref aG) rfl C.si rfl) (by rfl)) (pe_and (pe_cmpR op_eq (pe_callB call_len_seq (by rfl) B.len PySem.boot_len (pa_cons (pv 1) pa_nil)) pe_int (nomark _))
        (pe_one (pe_call CS.G hr rfl CS.m CS.k CS.b .nil pass0 (pa_cons (pv 0) (pa_cons (pe_ix ix_tup (pv 1) pe_int (fun _ _ => rfl)) pa_nil)))))))))))), ?_⟩
    have fin := q H (Same.refl _)
    unfold fitsD at fin
    rcases C.tz.get z with ⟨i, t, e1, e2⟩ | ⟨e1, e2⟩
    · rw [e1] at fin
      refine ⟨_, rfl, z, _, rfl, rfl, e2, _, rfl, iteT ?_⟩
      refine ⟨_, rfl, a, xs, rfl, .inr ht.1, _, rfl, aZ, z, _, rfl, rfl, C.tz.dct e2, rfl, ?_⟩
      have e3 : decide (V.int ((xs.length : Nat) : Int) = V.int i) = decide ((ds.length : Int) = i) := by
        rw [len]
        by_cases h : (ds.length : Int) = i
        · rw [decide_eq_true h, decide_eq_true (by rw [h])]
        · rw [decide_eq_false h, decide_eq_false fun x => h (V.int.inj x)]
      rw [e3]
      exact fin
    · rw [e1] at fin
      refine ⟨_, rfl, z, _, rfl, rfl, e2, _, rfl, iteF ?_⟩
      have fq : ∀ H', Same H H' → Q (.bl (fitsD z ds)) H' := q
      refine ⟨_, rfl, rfl, _, rfl, str_test (fun m1 => ?_) (fun m1 => ?_)⟩
      · refine all_tup (i := 1) (j := 2) rfl ht.1 ht.2.1 ht.2.2.2 hn ht.2.2.1 (fun _ => rfl) (fun _ => rfl) fun H' s' => ?_
        have z1 := fq H' s'
        unfold fitsD at z1
        rw [e1] at z1
        dsimp only at z1
        rw [if_pos m1] at z1
        exact z1
      · dsimp only at fin
        rw [if_neg m1] at fin
        rcases C.tl.get z with ⟨i, t, g1, g2⟩ | ⟨g1, g2⟩
        · rw [g1] at fin
          refine ⟨_, rfl, z, _, rfl, rfl, g2, _, rfl, iteT ?_⟩
          refine ⟨_, rfl, a, xs, rfl, .inr ht.1, _, rfl, aL, z, _, rfl, rfl, C.tl.dct g2, _, _, rfl, rfl, ?_⟩
          rw [len]
          exact fin
        · rw [g1] at fin
          refine ⟨_, rfl, z, _, rfl, rfl, g2, _, rfl, iteF ?_⟩
          have step : ∀ b H', Same H H' → fitsD z ds = b → Q (.bl b) H' := fun b H' s' e => by
            rw [← e]
            exact fq H' s'
          have base_ : fitsD z ds = if z = "fun" then funL ds else if z = "use" then useL ds else decide (z ∈ SINGl) && oneL z ds := by
            unfold fitsD
            rw [e1]
            dsimp only
            rw [if_neg m1, g1]
          dsimp only at fin
          refine ⟨_, rfl, rfl, _, rfl, str_test (fun m2 => ?_) (fun m2 => ?_)⟩
          · rw [if_pos m2] at fin base_
            refine ⟨_, rfl, a, xs, rfl, .inr ht.1, rfl, _, rfl, ?_⟩
            refine ite2 (fun c => ?_) (fun c => ?_)
            · have l2 : ds.length = 2 := by
                have z3 := V.int.inj (of_decide_eq_true c)
                omega
              match ds, l2, ht, base_, step with
              | [d0, d1], _, ht, base_, step =>
                obtain ⟨v0, h0, k0⟩ := ht.get (i := 0) rfl
                refine ⟨_, rfl, a, xs, _, _, rfl, rfl, ht.1, atI_nat (j := 0) h0, v0, d0, n, rfl, k0, hn, fun H1 s1 => ⟨_, rfl, ?_⟩⟩
                refine ite2 (fun c1 => ?_) (fun c1 => ?_)
                · cases d0 with
                  | int i =>
                    have hk := k0.1
                    cases hk
                    refine ⟨_, rfl, a, xs, _, _, rfl, rfl, SqT_same s1 ht.1, atI_nat (j := 0) h0, _, _, rfl, rfl, ?_⟩
                    refine step _ H1 s1 (base_.trans ?_)
                    have c2 : decide (0 ≤ i) = true := c1
                    show (decide (0 ≤ i) && decide (i ≤ 4)) = _
                    rw [c2]
                    rfl
                  | _ => cases c1
                · refine step _ H1 s1 (base_.trans ?_)
                  cases d0 with
                  | int i =>
                    have c2 : decide (0 ≤ i) = false := Bool.eq_false_iff.mpr c1
                    show (decide (0 ≤ i) && decide (i ≤ 4)) = _
                    rw [c2]
                    rfl
                  | _ => rfl
            · have l2 : ds.length ≠ 2 := fun x => c (by rw [len, x]; rfl)
              exact step _ H (Same.refl _) (base_.trans (fun_len l2))
          · rw [if_neg m2] at fin base_
            refine ⟨_, rfl, rfl, _, rfl, str_test (fun m3 => ?_) (fun m3 => ?_)⟩
            · rw [if_pos m3] at base_
              exact ⟨_, rfl, a, xs, ds, n, rfl, ht, by omega, fun H' s' => step _ H' s' base_⟩
            · rw [if_neg m3] at base_
              refine ⟨_, rfl, aG, _, rfl, .inr C.ki.sq, rfl, strs_flat _, _, rfl, ?_⟩
              show if inV (.str z) (SINGl.map V.str) = true then _ else _
              rw [inV_strs]
              refine ite2 (fun c => ?_) (fun c => ?_)
              · rw [c, Bool.true_and] at base_
                refine ⟨_, rfl, a, xs, rfl, .inr ht.1, rfl, _, rfl, ?_⟩
                refine ite2 (fun c1 => ?_) (fun c1 => ?_)
                · have l2 : ds.length = 1 := by
                    have z3 := V.int.inj (of_decide_eq_true c1)
                    omega
                  match ds, l2, ht, base_, step with
                  | [d0], _, ht, base_, step =>
                    obtain ⟨v0, h0, k0⟩ := ht.get (i := 0) rfl
                    exact ⟨_, rfl, _, rfl, a, xs, _, _, rfl, rfl, ht.1, atI_nat (j := 0) h0, z, v0, d0, n, rfl, k0, hn, fun H1 s1 => step _ H1 s1 base_⟩
                · have l2 : ds.length ≠ 1 := fun x => c1 (by rw [len, x]; rfl)
                  exact step _ H (Same.refl _) (base_.trans (one_len l2))
              · rw [Bool.eq_false_iff.mpr c, Bool.false_and] at base_
                exact step _ H (Same.refl _) base_
end
end K02

set_option Elab.async false
set_option linter.all false
set_option maxRecDepth 100000
set_option maxHeartbeats 4000000
namespace K02
open PySem PySem.Spec PyProof.Rows L2
def kidsL {α : Type} (s : Str) (l : List α) : List α := if s ∈ SINGl then [] else if s = "fun" then l.drop 1 else if s = "use" then l.drop 2 else l
def emptyT : PyData → Bool
  | .tuple [] => true
  | _ => false
def nodeD : PyData → Bool
  | .tuple [.str s, ink, .tuple ds] => inkD ink && (!(decide (s ∈ LITl) && !(emptyT ink)) && fitsD s ds)
  | _ => false
def kidsD : PyData → List PyData
  | .tuple [.str s, _, .tuple ds] => kidsL s ds
  | _ => []
def treeD : Nat → PyData → Bool
  | 0, _ => false
  | n + 1, d => nodeD d && (kidsD d).all (treeD n)
theorem cut_drop {xs : List V} (k : Nat) : cutV xs (some (k : Int)) none = xs.drop k := by
  unfold cutV
  rw [HT.sIx_nat, HT.sIx_none]
  by_cases h : k ≤ xs.length
  · rw [Nat.min_eq_left h]
    exact List.take_of_length_le (by rw [List.length_drop]; exact Nat.le_refl _)
  · have h' : xs.length ≤ k := by omega
    rw [Nat.min_eq_right h', List.drop_of_length_le (Nat.le_refl _), List.drop_of_length_le h']
    simp
theorem kidsL_sub {α : Type} {s : Str} {l : List α} {x : α} (h : x ∈ kidsL s l) : x ∈ l := by
  unfold kidsL at h
  split at h
  · cases h
  · split at h
    · exact List.mem_of_mem_drop h
    · split at h
      · exact List.mem_of_mem_drop h
      · exact h
theorem kidsL_len {α : Type} {s : Str} {l : List α} : (kidsL s l).length ≤ l.length := by
  unfold kidsL
  split
  · exact Nat.zero_le _
  · split
    · rw [List.length_drop]
      exact Nat.sub_le _ _
    · split
      · rw [List.length_drop]
        exact Nat.sub_le _ _
      · exact Nat.le_refl _
theorem dpa_kids {K : PySem.W.Frag} {H : Hp} {s : Str} {vs : List V} {ds : List PyData} (h : DpAll K H vs ds) : DpAll K H (kidsL s vs) (kidsL s ds) := by
  unfold kidsL
  by_cases h1 : s ∈ SINGl
  · rw [if_pos h1, if_pos h1]
    exact .nil
  · rw [if_neg h1, if_neg h1]
    by_cases h2 : s = "fun"
    · rw [if_pos h2, if_pos h2]
      exact dpa_drop 1 h
    · rw [if_neg h2, if_neg h2]
      by_cases h3 : s = "use"
      · rw [if_pos h3, if_pos h3]
        exact dpa_drop 2 h
      · rw [if_neg h3, if_neg h3]
        exact h
section
variable {P : Program} {w : World} {K : PySem.W.Frag} {mg : Str → Option Value} {base : Heap}
abbrev sNode : Stmt := top 14
theorem scNode : FnScope ["thing", "head", "ink", "items"] ["thing"] (defScope sNode) := ⟨rfl, rfl, rfl, by decide +kernel, rfl, by decide +kernel, by decide +kernel⟩
/-- the items to be trees of a node that is one -/
def spKids (K : PySem.W.Frag) : Sp := fun vs H Q _ => ∃ (t a : Addr) (s : Str) (vi : V) (xs : List V) (ds : List PyData) (n : Nat), vs = [.ref t] ∧ SqT K H t [.str s, vi, .ref a] ∧ TupD K H n a xs ds ∧
  ∀ (b : Addr) (H' : Hp), Same H H' → TupD K H' n b (kidsL s xs) (kidsL s ds) → Q (.ref b) H'
theorem slice_ok {H : Hp} {Q : VK} {a : Addr} {xs : List V} {k : Nat} (hs : SqT K H a xs) (q : ∀ (b : Addr) (H' : Hp), Same H H' → SqT K H' b (xs.drop k) → Q (.ref b) H') : rSlA K (.ref a) (some (k : Int)) none H Q := by
  refine ⟨a, xs, rfl, hs, fun h => ?_, fun _ p np => ?_⟩
  · refine q a H (Same.refl _) ?_
    have h1 : min k xs.length = 0 := by
      have z := h.1
      rw [HT.sIx_nat] at z
      exact z
    have e : xs.drop k = xs := by
      rcases Nat.eq_zero_or_pos k with hk | hk
      · rw [hk]
        rfl
      · have : xs.length = 0 := by omega
        rw [List.length_eq_zero_iff] at this
        rw [this]
        simp
    rw [e]
    exact hs
  · rw [cut_drop]
    exact q p _ (same_new np) (SqT.of upd_same)
/-- d.get(y, x) of a written dict -/
def tKGet (K : PySem.W.Frag) (d : Addr) (to ty tx : TE) : TE := fun σ H Q => to σ H fun x H1 => x = .ref d ∧ ty σ H1 fun y H2 => tx σ H2 fun z H3 => ∃ (k : Str) (r : Option Value), y = .str k ∧ PySem.W.nsIn K d k = some r ∧
  (∀ u, r = some u → ∃ v, RelV v u ∧ Q v H3) ∧ (r = none → Q z H3)
theorem pe_kget2 {X : Cx} {o e f : Expr} {apos cpos : Pos} {to ty tx : TE} {d : Addr} {es : Array DictEntry} {n : Nat} (D : KDict X.K X.w d es n) (ho : PE X o to) (he : PE X e ty) (hf : PE X f tx) (m : M2 X o "get" apos e f cpos) :
    PE X (.Call (.Attribute o "get" apos) [e, f] [] cpos) (tKGet X.K d to ty tx) := by
  refine ⟨fun pins s σ H Q I h => ?_⟩
  refine wpAny_Call_method m.base m.few m.line PySem.F.plainAttrs_dict PySem.F.slot_dict_get PySem.F.type_dict_get (thn (ho.run pins s σ H _ I h) fun u s1 ⟨x, H1, I1, rx, ex, q1⟩ => ?_)
  subst ex
  obtain rfl : u = Value.ref d := rx
  refine ⟨kd_type D I1, fun b q => ?_, ?_⟩
  · cases q
    exact ⟨_, I1.kIn _ _ D.at_, rfl⟩
  rw [m.trees]
  refine Calls.callWith_builtin rfl (Calls.evalArgs_plain (Calls.spliced_cons (thn (he.run pins s1 σ H1 _ I1 q1) fun iv s2 ⟨y, H2, I2, ry, q2⟩ =>
    Calls.spliced_cons (thn (hf.run pins s2 σ H2 _ I2 q2) fun fv s3 ⟨z, H3, I3, rz, k, r, ey, en, q3, q4⟩ => Calls.spliced_nil ?_))))
  subst ey
  obtain ⟨t, rfl⟩ := ry
  refine call_meetsIn PySem.F.slot_dict_get (kd_type D I3) PySem.F.entry_dict_get (PySem.F.args_dict_get_3 _ _ _) (meets_dict_get_default _ d (PySem.strKind_is X.prog X.w k t) D.low fv) ⟨_, PySem.W.mapOf_K (prog := X.prog) I3.kIn D.at_ D.lit, ?_⟩
  rw [PySem.W.find_K D.at_ en]
  cases r with
  | some u =>
    obtain ⟨v, rv, qv⟩ := q3 u rfl
    exact ⟨v, H3, I3.tok _, rv, qv⟩
  | none => exact ⟨z, H3, I3.tok _, rz, q4 rfl⟩
def FTl : List (Str × Int) := ([("fun", 1), ("use", 2)] : List (String × Int)).map fun p => (Str.ofString p.1, p.2)
theorem ft_look (z : Str) : (FTl.lookup z = some 1 ∧ z = "fun") ∨ (FTl.lookup z = some 2 ∧ z = "use" ∧ z ≠ "fun") ∨ (FTl.lookup z = none ∧ z ≠ "fun" ∧ z ≠ "use") := by
  have e : FTl = [(Str.ofString "fun", 1), (Str.ofString "use", 2)] := rfl
  rw [e]
  by_cases h1 : z = "fun"
  · subst h1
    exact .inl ⟨by decide +kernel, rfl⟩
  · have b1 : (z == ("fun" : Str)) = false := beq_eq_false_iff_ne.mpr h1
    by_cases h2 : z = "use"
    · subst h2
      exact .inr (.inl ⟨by decide +kernel, rfl, h1⟩)
    · have b2 : (z == ("use" : Str)) = false := beq_eq_false_iff_ne.mpr h2
      exact .inr (.inr ⟨by simp [List.lookup, b1, b2], h1, h2⟩)
theorem ok_kids {f aZ aL aM aG aF : Addr} {fd : FuncData} {eZ eL eF : Array DictEntry} {nZ nL nF : Nat} {tM : Tok} (F : Fun K "trees_of" "trees_of" sKids f fd) (C : CH K w mg aZ aL aM aG eZ eL nZ nL tM) (mF : mg "FIRST_TREE" = some (.ref aF)) (tF : Tab K w aF eF nF FTl) : FnOk P w K mg base CX0 1 f fd ["node"] (spKids K) := by
  refine F.ok scKids (fun vs H Q E h => ?_) (fun cdv A outer s H vs Q E hr h => ?_)
  · obtain ⟨t, a, z, vi, xs, ds, n, rfl, _⟩ := h
    rfl
  · obtain ⟨t, a, z, vi, xs, ds, n, rfl, hs, ht, q⟩ := h
    refine ⟨_, pss_cons (ps_asg (pv 0) (pg_tup rfl (pgs_cons (pg_name (i := 1) scKids.nd rfl (.inl rfl)) (pgs_cons (pg_name (i := 2) scKids.nd rfl (.inl rfl)) (pgs_cons (pg_name (i := 3) scKids.nd rfl (.inl rfl)) pgs_nil)))))
      (pss_cons (ps_if (pt_cmpR op_in_seq (pv 1) (pe_glob (v := .ref aG) rfl C.si rfl) (by rfl)) (pss_one (ps_ret (pe_tup pa_nil))) pss_nil)
      (pss_cons (ps_set (i := 4) scKids.nd rfl (.inl rfl) (pe_kget2 tF.kd (pe_glob (v := .ref aF) rfl mF rfl) (pv 1) pe_int ⟨rfl, rfl, rfl, rfl⟩))
      (pss_one (ps_ret (pe_ifExp (pt_truth (pv 4) (by intro _; rfl)) (pe_slice sl_tupA (pv 3) (po_some (pv 4)) po_none) (pv 3)))))), ?_⟩
    refine ⟨_, rfl, t, _, rfl, hs, rfl, _, _, rfl, _, _, rfl, _, _, rfl, rfl, ?_⟩
    refine ⟨_, rfl, aG, _, rfl, .inr C.ki.sq, rfl, strs_flat _, _, rfl, ?_⟩
    show if inV (.str z) (SINGl.map V.str) = true then _ else _
    rw [inV_strs]
    have fin : ∀ (b : Addr) (H' : Hp) (ys : List V), Same H H' → ys = kidsL z xs → SqT K H' b ys → Q (.ref b) H' := fun b H' ys s' e hb => by
      subst e
      refine q b H' s' ⟨hb, dpa_kids (dps_mono s' ds xs ht.2.1), Nat.le_trans kidsL_len ht.2.2.1, fun d hd => ht.2.2.2 d (kidsL_sub hd)⟩
    refine ite2 (fun c => ?_) (fun c => ?_)
    · refine ⟨Nat.zero_le _, fun p np => fin p _ [] (same_new np) ?_ (SqT.of upd_same)⟩
      unfold kidsL
      rw [if_pos (of_decide_eq_true c)]
    · have n1 : ¬ z ∈ SINGl := fun h => c (decide_eq_true h)
      have last : ∀ k : Nat, kidsL z xs = xs.drop k → (∀ (b : Addr) (H' : Hp), Same H H' → SqT K H' b (xs.drop k) → Q (.ref b) H') := fun k e b H' s' hb => fin b H' _ s' e.symm hb
      rcases tF.get z with ⟨i, tk, g1, g2⟩ | ⟨g1, g2⟩
      · refine ⟨rfl, _, rfl, z, _, rfl, g2, fun u hu => ?_, fun hu => (nomatch hu)⟩
        cases hu
        refine ⟨.int i, ⟨_, rfl⟩, ?_⟩
        rcases ft_look z with ⟨e1, m1⟩ | ⟨e1, m1, m2⟩ | ⟨e1, _⟩
        · rw [g1] at e1
          cases e1
          refine ⟨_, rfl, _, rfl, iteT ?_⟩
          refine ⟨_, rfl, _, rfl, 1, rfl, slice_ok (k := 1) ht.1 (last 1 ?_)⟩
          unfold kidsL
          rw [if_neg n1, if_pos m1]
        · rw [g1] at e1
          cases e1
          refine ⟨_, rfl, _, rfl, iteT ?_⟩
          refine ⟨_, rfl, _, rfl, 2, rfl, slice_ok (k := 2) ht.1 (last 2 ?_)⟩
          unfold kidsL
          rw [if_neg n1, if_neg m2, if_pos m1]
        · rw [g1] at e1
          cases e1
      · refine ⟨rfl, _, rfl, z, _, rfl, g2, fun u hu => (nomatch hu), fun _ => ?_⟩
        rcases ft_look z with ⟨e1, m1⟩ | ⟨e1, m1, m2⟩ | ⟨e1, m1, m2⟩
        · rw [g1] at e1
          cases e1
        · rw [g1] at e1
          cases e1
        · refine ⟨_, rfl, _, rfl, iteF ?_⟩
          refine ⟨_, rfl, fin a H _ (Same.refl _) ?_ ht.1⟩
          unfold kidsL
          rw [if_neg n1, if_neg m1, if_neg m2]
end
end K02

set_option Elab.async false
set_option linter.all false
set_option maxRecDepth 100000
set_option maxHeartbeats 4000000
namespace K02
open PySem PySem.Spec PyProof.Rows L2
theorem node_len {ds : List PyData} (h : ds.length ≠ 3) : nodeD (.tuple ds) = false := by
  match ds, h with
  | [], _ => simp [nodeD]
  | [_], _ => simp [nodeD]
  | [_, _], _ => simp [nodeD]
  | [_, _, _], h => exact absurd rfl h
  | _ :: _ :: _ :: _ :: _, _ => simp [nodeD]
theorem empty_eqv (d : PyData) : PyData.eqv d (.tuple []) = emptyT d := by
  cases d with
  | tuple ds => cases ds <;> simp [PyData.eqv, PyData.eqvAll, emptyT]
  | _ => simp [PyData.eqv, emptyT]
theorem nil_shaped : SeqAt.shaped (.tuple []) = true := by decide +kernel
section
variable {P : Program} {w : World} {K : PySem.W.Frag} {mg : Str → Option Value} {base : Heap}
theorem ok_node {f fI fF aLit : Addr} {fd dI dF : FuncData} (F : Fun K "_is_node" "_is_node" sNode f fd) (B : BI mg) (mL : mg "LITERALS" = some (.ref aLit)) (kL : KT K aLit (LITl.map V.str))
    (CI : Cal P w K mg base "_is_ink" 5 fI dI ["thing"] [] (spP K inkD)) (CF : Cal P w K mg base "_items_fit" 4 fF dF ["head", "items"] [] (spFits K)) : FnOk P w K mg base CX0 6 f fd ["thing"] (spP K nodeD) := by
  refine F.ok scNode (fun vs H Q E h => ?_) (fun cdv A outer s H vs Q E hr h => ?_)
  · obtain ⟨v, d, n, rfl, _⟩ := h
    rfl
  · obtain ⟨v, d, n, rfl, hv, hn, q⟩ := h
    have hu : (A.deeper (envOfC "_is_node" (defScope sNode) s.heap.objs.size f cdv)).units + 64 < cLine := by
      have := hr.un
      omega
    refine ⟨_, pss_cons (ps_if (PW.pt (pw_or (pt_not (pt_val (pe_callB call_isi (by rfl) B.isi (by decide +kernel) (pa_cons (pv 0) (pa_cons (pe_bltn (v := .ty "tuple") (by rfl) B.tup (by decide +kernel) rfl) pa_nil)))))
        (pw_or1 (pt_cmpR op_ne (pe_callB call_len_seq (by rfl) B.len PySem.boot_len (pa_cons (pv 0) pa_nil)) pe_int (nomark _))))) (pss_one (ps_ret pe_bl)) pss_nil)
      (pss_cons (ps_asg (pv 0) (pg_tup rfl (pgs_cons (pg_name (i := 1) scNode.nd rfl (.inl rfl)) (pgs_cons (pg_name (i := 2) scNode.nd rfl (.inl rfl)) (pgs_cons (pg_name (i := 3) scNode.nd rfl (.inl rfl)) pgs_nil)))))
      (pss_cons (ps_if (PW.pt (pw_or (pt_not (pt_val (pe_callB call_isi (by rfl) B.isi (by decide +kernel) (pa_cons (pv 1) (pa_cons (pe_bltn (v := .ty "str") (by rfl) B.str (by decide +kernel) rfl) pa_nil)))))
          (pw_or (pt_not (pt_val (pe_callB call_isi (by rfl) B.isi (by decide +kernel) (pa_cons (pv 3) (pa_cons (pe_bltn (v := .ty "tuple") (by rfl) B.tup (by decide +kernel) rfl) pa_nil)))))
          (pw_or1 (pt_not (pt_val (pe_call CI.G hr rfl CI.m CI.k CI.b .nil pass0 (pa_cons (pv 2) pa_nil)))))))) (pss_one (ps_ret pe_bl)) pss_nil)
      (pss_cons (ps_if (PW.pt (pw_and (pt_cmpR op_in_seq (pv 1) (pe_glob (v := .ref aLit) rfl mL rfl) (by rfl)) (pw_and1 (pt_cmpR (op_neD hu) (pv 2) (pe_tup pa_nil) (nomark _))))) (pss_one (ps_ret pe_bl)) pss_nil)
      (pss_one (ps_ret (pe_call CF.G (hr.mono (by decide)) rfl CF.m CF.k CF.b .nil pass0 (pa_cons (pv 1) (pa_cons (pv 3) pa_nil)))))))), ?_⟩
    refine ⟨_, rfl, v, _, _, _, _, rfl, .ty _, ty_of hv.1, k_tup, _, rfl, ?_⟩
    have fin := q H (Same.refl _)
    cases d with
    | tuple ds =>
      obtain ⟨a, xs, m, rfl, rfl, ht⟩ := hv.tup
      have len := ht.len
      refine iteF ?_
      refine ⟨_, rfl, a, xs, rfl, .inr ht.1, rfl, _, rfl, ?_⟩
      refine ite2 (fun c => ?_) (fun c => ?_)
      · have n3 : ds.length ≠ 3 := fun z => by
          rw [len, z] at c
          exact absurd c (by decide)
        rw [node_len n3] at fin
        exact fin
      · have l3 : ds.length = 3 := by
          have z : (!decide (V.int ((xs.length : Nat) : Int) = V.int 3)) = false := Bool.eq_false_iff.mpr c
          have z2 : decide (V.int ((xs.length : Nat) : Int) = V.int 3) = true := by simpa using z
          have z3 := V.int.inj (of_decide_eq_true z2)
          omega
        obtain ⟨hs, hd, _, hm⟩ := ht
        match ds, l3, hd, hm, fin, q with
        | [dh, di, dp], _, hd, hm, fin, q =>
          cases hd with
          | @cons vh vs1 _ _ eh hd => cases hd with
            | @cons vi vs2 _ _ ei hd => cases hd with
              | @cons vp vs3 _ _ ep hd =>
                cases hd
                refine ⟨_, rfl, a, _, rfl, hs, rfl, _, _, rfl, _, _, rfl, _, _, rfl, rfl, ?_⟩
                have oi := hm di (by simp)
                have op := hm dp (by simp)
                refine ⟨_, rfl, vh, _, _, _, _, rfl, .ty _, ty_of eh, k_str, _, rfl, ?_⟩
                cases dh with
                | str z =>
                  cases eh
                  refine iteF ?_
                  refine ⟨_, rfl, vp, _, _, _, _, rfl, .ty _, ty_of ep, k_tup, _, rfl, ?_⟩
                  cases dp with
                  | tuple ps =>
                    have hp : Dv K H m vp (.tuple ps) := ⟨ep, op⟩
                    obtain ⟨b, ys, m2, rfl, rfl, hty⟩ := hp.tup
                    refine iteF ?_
                    have fq : ∀ H', Same H H' → Q (.bl (inkD di && (!(decide (z ∈ LITl) && !(emptyT di)) && fitsD z ps))) H' := q
                    refine ⟨_, rfl, vi, di, _, rfl, ⟨ei, oi⟩, by omega, fun H1 s1 => ⟨_, rfl, ?_⟩⟩
                    refine ite2 (fun c1 => ?_) (fun c1 => ?_)
                    · have z1 := fq H1 s1
                      have e1 : inkD di = false := by simpa using c1
                      rw [e1] at z1
                      exact z1
                    · have e1 : inkD di = true := by simpa using c1
                      rw [e1] at fq
                      refine ⟨_, rfl, aLit, _, rfl, .inr kL.sq, rfl, strs_flat _, _, rfl, ?_⟩
                      show if inV (.str z) (LITl.map V.str) = true then _ else _
                      rw [inV_strs]
                      have last : ∀ H2, Same H H2 → (decide (z ∈ LITl) && !(emptyT di)) = false → tCall (spFits K) [] E0 (tCons (tVar 1) (tCons (tVar 3) tNil)) [some (.ref a), some (.str z), some vi, some (.ref b)] H2 fun v H3 => Q v H3 := fun H2 s2 e2 => by
                        refine ⟨_, rfl, _, rfl, z, b, ys, ps, m2, rfl, hty.mono s2, by omega, fun H3 s3 => ?_⟩
                        have z1 := fq H3 (s2.trans s3)
                        rw [e2] at z1
                        exact z1
                      refine ite2 (fun c2 => ?_) (fun c2 => ?_)
                      · refine ⟨_, rfl, Nat.zero_le _, fun p np => ?_⟩
                        have s2 : Same H1 (upd H1 p (.tup [])) := same_new np
                        refine ⟨di, .tuple [], dp_mono (s1.trans s2) di vi ei, .tup (SqT.of upd_same) .nil, oi.shaped (by omega), nil_shaped, ?_⟩
                        rw [empty_eqv]
                        refine ⟨_, rfl, ?_⟩
                        refine ite2 (fun c3 => ?_) (fun c3 => ?_)
                        · have z1 := fq _ (s1.trans s2)
                          rw [c2, c3] at z1
                          exact z1
                        · refine last _ (s1.trans s2) ?_
                          rw [c2, Bool.eq_false_iff.mpr c3]
                          rfl
                      · refine last H1 s1 ?_
                        rw [Bool.eq_false_iff.mpr c2]
                        rfl
                  | _ => exact iteT fin
                | _ => exact iteT fin
    | _ => exact iteT fin
end
end K02

set_option Elab.async false
set_option linter.all false
set_option maxRecDepth 100000
set_option maxHeartbeats 4000000
namespace K02
open PySem PySem.Spec PyProof.Rows L2
abbrev sTree : Stmt := top 12
theorem scTree : FnScope ["thing", "waiting", "node"] ["thing"] (defScope sTree) := ⟨rfl, rfl, rfl, by decide +kernel, rfl, by decide +kernel, by decide +kernel⟩
/-- what is waiting: data with fuel -/
abbrev Wt := List (PyData × Nat)
structure Stk (es : Wt) : Prop where
  ok : ∀ e ∈ es, ∃ m, m < e.2 ∧ okD m e.1
  pos : ∀ (i : Nat) (e : PyData × Nat), es[i]? = some e → e.2 ≤ 61 ∧ i ≤ 100 * (61 - e.2)
def msr (es : Wt) : Nat := (es.map fun e => 101 ^ e.2).sum
def allT (es : Wt) : Bool := es.all fun e => treeD e.2 e.1
theorem Stk.len {es : Wt} (h : Stk es) : es.length ≤ 6201 := by
  rcases Nat.eq_zero_or_pos es.length with z | z
  · omega
  · have e := List.getElem?_eq_getElem (l := es) (i := es.length - 1) (by omega)
    have := h.pos _ _ e
    omega
theorem msr_append (a b : Wt) : msr (a ++ b) = msr a + msr b := by
  unfold msr
  rw [List.map_append, List.sum_append]
theorem msr_kids (ds : List PyData) (k : Nat) : msr (ds.map fun d => (d, k)) = ds.length * 101 ^ k := by
  induction ds with
  | nil => simp [msr]
  | cons d ds ih =>
    have : msr ((d :: ds).map fun d => (d, k)) = 101 ^ k + msr (ds.map fun d => (d, k)) := by simp [msr]
    rw [this, ih, List.length_cons, Nat.add_mul]
    omega
theorem allT_append (a b : Wt) : allT (a ++ b) = (allT a && allT b) := by
  unfold allT
  rw [List.all_append]
theorem allT_kids (ds : List PyData) (k : Nat) : allT (ds.map fun d => (d, k)) = ds.all (treeD k) := by
  unfold allT
  rw [List.all_map]
  rfl
theorem split_last {α : Type} {l : List α} (h : l ≠ []) : ∃ i x, l = i ++ [x] := ⟨l.dropLast, l.getLast h, (List.dropLast_concat_getLast h).symm⟩
/-- the node of a datum that is one -/
theorem node_split {d : PyData} (h : nodeD d = true) : ∃ s ink ds, d = .tuple [.str s, ink, .tuple ds] := by
  unfold nodeD at h
  split at h
  · exact ⟨_, _, _, rfl⟩
  · cases h
theorem Stk.turn {es : Wt} {d : PyData} {k : Nat} {s : Str} {ink : PyData} {ds : List PyData} (h : Stk (es ++ [(d, k)])) (e : d = .tuple [.str s, ink, .tuple ds]) :
    ∃ j, k = j + 1 ∧ Stk (es ++ (kidsL s ds).map fun x => (x, j)) ∧ msr (es ++ (kidsL s ds).map fun x => (x, j)) < msr (es ++ [(d, k)]) := by
  obtain ⟨m, hm, om⟩ := h.ok (d, k) (by simp)
  subst e
  dsimp only at hm om
  obtain ⟨_, m1, rfl, q1⟩ := om.tup
  obtain ⟨l2, m2, rfl, q2⟩ := (q1 (.tuple ds) (by simp)).tup
  have lk : (kidsL s ds).length ≤ 100 := Nat.le_trans kidsL_len l2
  refine ⟨k - 1, by omega, ⟨?_, ?_⟩, ?_⟩
  · intro e he
    rcases List.mem_append.mp he with he | he
    · exact h.ok e (List.mem_append_left _ he)
    · obtain ⟨x, hx, rfl⟩ := List.mem_map.mp he
      exact ⟨m2, by show m2 < k - 1; omega, q2 x (kidsL_sub hx)⟩
  · intro i e he
    have top := h.pos es.length (.tuple [.str s, ink, .tuple ds], k) (by simp)
    dsimp only at top
    by_cases hi : i < es.length
    · refine h.pos i e ?_
      rw [List.getElem?_append_left hi] at he ⊢
      exact he
    · have hi2 : es.length ≤ i := by omega
      rw [List.getElem?_append_right hi2] at he
      obtain ⟨hlt, _⟩ := List.getElem?_eq_some_iff.mp he
      rw [List.length_map] at hlt
      obtain ⟨x, hx, rfl⟩ := List.mem_map.mp (List.mem_of_getElem? he)
      dsimp only
      omega
  · rw [msr_append, msr_append, msr_kids]
    have e1 : msr [((.tuple [.str s, ink, .tuple ds] : PyData), k)] = 101 ^ k := by simp [msr]
    rw [e1]
    obtain ⟨j, rfl⟩ : ∃ j, k = j + 1 := ⟨k - 1, by omega⟩
    have p : 0 < 101 ^ j := Nat.pow_pos (by decide)
    have e2 : 101 ^ (j + 1) = 101 ^ j * 101 := Nat.pow_succ ..
    rw [e2]
    show _ + (kidsL s ds).length * 101 ^ j < _
    have : (kidsL s ds).length * 101 ^ j ≤ 100 * 101 ^ j := Nat.mul_le_mul_right _ lk
    omega
theorem allT_turn {es : Wt} {d : PyData} {j : Nat} {s : Str} {ink : PyData} {ds : List PyData} (e : d = .tuple [.str s, ink, .tuple ds]) (hn : nodeD d = true) :
    allT (es ++ [(d, j + 1)]) = allT (es ++ (kidsL s ds).map fun x => (x, j)) := by
  rw [allT_append, allT_append, allT_kids]
  have : allT [(d, j + 1)] = (nodeD d && (kidsD d).all (treeD j)) := by simp [allT, treeD]
  rw [this, hn, Bool.true_and, e]
  rfl
theorem allT_no {es : Wt} {d : PyData} {k : Nat} (hn : nodeD d = false) : allT (es ++ [(d, k)]) = false := by
  rw [allT_append]
  have : allT [(d, k)] = treeD k d := by simp [allT]
  rw [this]
  cases k with
  | zero => simp [treeD]
  | succ k => simp [treeD, hn]
theorem dpa_append {K : PySem.W.Frag} {H : Hp} : ∀ {xs ys : List V} {ds es : List PyData}, DpAll K H xs ds → DpAll K H ys es → DpAll K H (xs ++ ys) (ds ++ es)
  | _, _, _, _, .nil, h => h
  | _, _, _, _, .cons a b, h => .cons a (dpa_append b h)
theorem dpa_unsnoc {K : PySem.W.Frag} {H : Hp} {vs : List V} {ds : List PyData} {d : PyData} (h : DpAll K H vs (ds ++ [d])) : ∃ us u, vs = us ++ [u] ∧ DpAll K H us ds ∧ Dp K H u d := by
  induction ds generalizing vs with
  | nil =>
    cases h with
    | cons a b =>
      cases b
      exact ⟨[], _, rfl, .nil, a⟩
  | cons x ds ih =>
    cases h with
    | cons a b =>
      obtain ⟨us, u, rfl, c, e⟩ := ih b
      exact ⟨_ :: us, u, rfl, .cons a c, e⟩
/-- the fuel of a drawn datum -/
def treeT (d : PyData) : Bool := treeD 61 d
section
variable {P : Program} {w : World} {K : PySem.W.Frag} {mg : Str → Option Value} {base : Heap}
theorem ok_tree {f fN fK : Addr} {fd dN dK : FuncData} (F : Fun K "is_tree" "is_tree" sTree f fd) 
    (CN : Cal P w K mg base "_is_node" 6 fN dN ["thing"] [] (spP K nodeD)) (CK : Cal P w K mg base "trees_of" 1 fK dK ["node"] [] (spKids K)) : FnOk P w K mg base CX0 7 f fd ["thing"] (spP K treeT) := by
  refine F.ok scTree (fun vs H Q E h => ?_) (fun cdv A outer s H vs Q E hr h => ?_)
  · obtain ⟨v, d, n, rfl, _⟩ := h
    rfl
  · obtain ⟨v, d, n, rfl, hv, hn, q⟩ := h
    have hr1 : Room 1 _ := hr.mono (by decide)
    refine ⟨_, pss_cons (ps_set (i := 1) scTree.nd rfl (.inl rfl) (pe_lst (pa_cons (pv 0) pa_nil)))
      (pss_cons (ps_while PassesOwn.never (pt_truth (pv 1) (by intro _; rfl))
        (pss_cons (ps_set (i := 2) scTree.nd rfl (.inl rfl) (pe_bm0 PySem.F.plainAttrs_list PySem.F.slot_list_pop PySem.F.type_list_pop mt_pop (pv 1)))
        (pss_cons (ps_if (pt_not (pt_val (pe_call CN.G hr rfl CN.m CN.k CN.b .nil pass0 (pa_cons (pv 2) pa_nil)))) (pss_one (ps_ret pe_bl)) pss_nil)
        (pss_one (ps_expr (pe_bm PySem.F.plainAttrs_list PySem.F.slot_list_extend PySem.F.type_list_extend mt_extendT (pv 1) (pa_cons (pe_call CK.G hr1 rfl CK.m CK.k CK.b .nil pass0 (pa_cons (pv 2) pa_nil)) pa_nil)))))))
      (pss_one (ps_ret pe_bl))), ?_⟩
    refine ⟨_, rfl, (by show 1 ≤ sizeLine; decide), fun l nl => ?_⟩
    refine ⟨fun m σ H1 => ∃ (es : Wt) (vs : List V) (o : Option V), m = msr es ∧ Stk es ∧ DpAll K H vs (es.map Prod.fst) ∧ allT es = treeT d ∧ H1 l = some (.lst vs) ∧ Same H H1 ∧ σ = [some v, some (.ref l), o], ?_, ?_⟩
    · refine ⟨_, [(d, 61)], [v], none, rfl, ⟨?_, ?_⟩, .cons hv.1 .nil, ?_, upd_same, same_new nl, rfl⟩
      · intro e he
        rw [List.mem_singleton.mp he]
        exact ⟨n, by show n < 61; omega, hv.2⟩
      · intro i e he
        obtain ⟨hlt, he⟩ := List.getElem?_eq_some_iff.mp he
        have i0 : i = 0 := by simpa using hlt
        subst i0
        cases he
        exact ⟨Nat.le_refl _, Nat.zero_le _⟩
      · simp [allT, treeT]
    · rintro m σ H1 ⟨es, vs, o, rfl, st, hd, ha, hl, s1, rfl⟩
      refine ⟨_, rfl, !vs.isEmpty, .inl ⟨vs, SqL.of hl, rfl⟩, ?_⟩
      rcases Nat.eq_zero_or_pos es.length with z | z
      · have e0 : es = [] := List.length_eq_zero_iff.mp z
        subst e0
        cases hd
        refine iteF ?_
        have z1 := q H1 s1
        rw [← ha] at z1
        exact z1
      · have ne : es ≠ [] := fun e => by
          rw [e] at z
          exact absurd z (by decide)
        obtain ⟨es, ⟨d', k⟩, rfl⟩ := split_last ne
        rw [List.map_append] at hd
        obtain ⟨us, u, rfl, hus, hu⟩ := dpa_unsnoc hd
        have lus := dpa_len hus
        refine itT (by simp) ?_
        refine ⟨fun σ' H' => ∃ m', m' < msr (es ++ [(d', k)]) ∧ ∃ (es : Wt) (vs : List V) (o : Option V), m' = msr es ∧ Stk es ∧ DpAll K H vs (es.map Prod.fst) ∧ allT es = treeT d ∧ H' l = some (.lst vs) ∧ Same H H' ∧ σ' = [some v, some (.ref l), o], fun _ _ h => h, ?_⟩
        refine ⟨_, rfl, .inl ⟨rfl, _, SqL.of hl⟩, l, _, u, rfl, rfl, hl, by simp, ?_⟩
        rw [List.dropLast_concat]
        obtain ⟨mm, hmm, om⟩ := st.ok (d', k) (by simp)
        have k62 : k ≤ 61 := (st.pos es.length (d', k) (by simp)).1
        dsimp only at om hmm
        have s2 : Same H (upd H1 l (.lst us)) := fun b ob e => by
          by_cases hb : b = l
          · rw [hb, nl] at e
            cases e
          · rw [upd_ne hb]
            exact s1 _ _ e
        have hl2 : (upd H1 l (.lst us)) l = some (.lst us) := upd_same
        generalize upd H1 l (.lst us) = H2 at s2 hl2 ⊢
        by_cases m60 : mm ≤ 60
        · refine ⟨_, rfl, u, d', mm, rfl, ⟨dp_mono s2 d' u hu, om⟩, m60, fun H3 s3 => ⟨_, rfl, ?_⟩⟩
          refine ite2 (fun c => ?_) (fun c => ?_)
          · have z1 := q H3 (s2.trans s3)
            rw [← ha, allT_no (by simpa using c)] at z1
            exact z1
          · have nd : nodeD d' = true := by simpa using c
            clear z
            obtain ⟨z, ink, ds, e⟩ := node_split nd
            obtain ⟨j, rfl, st2, lt⟩ := st.turn e
            rw [allT_turn e nd] at ha
            subst e
            have hu3 : Dv K H mm u _ := ⟨hu, om⟩
            obtain ⟨t, xs, m1, rfl, rfl, ht⟩ := hu3.tup
            obtain ⟨hts, htd, htl, htk⟩ := ht
            cases htd with
            | @cons vh vs1 _ _ eh htd => cases htd with
              | @cons vi vs2 _ _ ei htd => cases htd with
                | @cons vp vs3 _ _ ep htd =>
                  cases htd
                  cases eh
                  have hp : Dv K H m1 vp (.tuple ds) := ⟨ep, htk _ (by simp)⟩
                  obtain ⟨a, ys, m2, rfl, rfl, hty⟩ := hp.tup
                  refine ⟨_, rfl, .inl ⟨rfl, _, SqL.of (s3 _ _ hl2)⟩, _, rfl, t, a, z, vi, ys, ds, m2, rfl, SqT_same (s2.trans s3) hts, hty.mono (s2.trans s3), fun b H4 s4 hb => ?_⟩
                  refine ⟨l, b, us, kidsL z ys, rfl, rfl, s4 _ _ (s3 _ _ hl2), hb.1, ?_, ?_⟩
                  · have k1 := kidsL_len (s := z) (l := ys)
                    have k2 := hty.len
                    have k3 := hty.2.2.1
                    have k4 := st.len
                    simp only [List.length_append, List.length_map] at k4 lus
                    have : us.length + (kidsL z ys).length ≤ 6301 := by omega
                    exact Nat.le_trans this (by show 6301 ≤ sizeLine; decide)
                  · refine ⟨_, lt, es ++ (kidsL z ds).map fun x => (x, j), us ++ kidsL z ys, some (.ref t), rfl, st2, ?_, ha, upd_same, ?_, rfl⟩
                    · rw [List.map_append, List.map_map]
                      refine dpa_append hus ?_
                      have : (Prod.fst ∘ fun x : PyData => (x, j)) = id := rfl
                      rw [this, List.map_id]
                      exact dpa_kids hty.2.1
                    · intro b' ob e
                      by_cases hb' : b' = l
                      · rw [hb', nl] at e
                        cases e
                      · rw [upd_ne hb']
                        exact s4 _ _ (s3 _ _ (s2 _ _ e))
        · exact absurd hmm (by omega)
end
end K02

set_option Elab.async false
set_option linter.all false
set_option maxRecDepth 100000
set_option maxHeartbeats 4000000
namespace K02
open PySem PySem.Spec PyProof.Rows L2
/-! ### the law's own predicates -/
def ONESl : List Str := (["do", "not", "first", "rest", "none", "cell", "get", "raise", "say"] : List String).map Str.ofString
def TWOSl : List Str := (["seq", "plus", "minus", "times", "less", "same", "put", "set"] : List String).map Str.ofString
def RES0 : Str := "int quote flag global made ref name fun call let if list try use true false word rule run where"
def RES1 : List Str := (["int", "quote", "flag", "global", "made", "ref", "name", "fun", "call", "let", "if", "list", "try", "use", "true", "false", "word", "rule", "run", "where"] : List String).map Str.ofString
def RESw : List Str := (RES1 ++ ONESl) ++ TWOSl
theorem res_split : Txt.split RES0 " " = RES1 := by decide +kernel
theorem res_same (s : Str) : decide (s ∈ RESw) = decide (s ∈ RESl) := by
  have h1 : ∀ x ∈ RESw, x ∈ RESl := by decide +kernel
  have h2 : ∀ x ∈ RESl, x ∈ RESw := by decide +kernel
  by_cases h : s ∈ RESl
  · rw [decide_eq_true h, decide_eq_true (h2 s h)]
  · rw [decide_eq_false h, decide_eq_false fun z => h (h1 s z)]
def firstN (s : Str) : Int := if s = "fun" then 1 else if s = "use" then 2 else if s = "made" then 0 else if s ∈ SINGl then 1 else 0
def cntD (l : Int) : PyData → Bool
  | .int i => decide (l ≤ i)
  | _ => false
theorem valV_s {a s : Str} {v : V} {r : List (Key × V)} : valV (((.inr a : Key), v) :: r) (.inr s) = if a = s then some v else valV r (.inr s) := by
  unfold valV
  rw [List.find?_cons]
  by_cases e : a = s
  · subst e
    simp
  · have : decide ((Sum.inr a : Key) = Sum.inr s) = false := decide_eq_false fun z => e (Sum.inr.inj z)
    dsimp only
    rw [this, if_neg e]
theorem valV_0 {s : Str} : valV ([] : List (Key × V)) (.inr s) = none := rfl
theorem isD_of {H : Hp} {p : Addr} {kvs : List (Key × V)} (e : H p = some (.dK kvs)) : IsD H p := .inl ⟨kvs, .inl e⟩
section
variable {P : Program} {w : World} {K : PySem.W.Frag} {mg : Str → Option Value} {base : Heap}
abbrev sFirst : Stmt := top 30
abbrev sOnes : Stmt := top 31
abbrev sTwos : Stmt := top 32
abbrev sLInk : Stmt := top 34
abbrev sCount : Stmt := top 35
abbrev sReserved : Stmt := top 36
abbrev sLName : Stmt := top 37
theorem scFirst : FnScope ["_law_head"] ["_law_head"] (defScope sFirst) := ⟨rfl, rfl, rfl, by decide +kernel, rfl, by decide +kernel, by decide +kernel⟩
theorem scOnes : FnScope [] [] (defScope sOnes) := ⟨rfl, rfl, rfl, by decide +kernel, rfl, by decide +kernel, by decide +kernel⟩
theorem scTwos : FnScope [] [] (defScope sTwos) := ⟨rfl, rfl, rfl, by decide +kernel, rfl, by decide +kernel, by decide +kernel⟩
theorem scLInk : FnScope ["_law_thing", "_law_mark_here", "_law_one"] ["_law_thing"] (defScope sLInk) := ⟨rfl, rfl, rfl, by decide +kernel, rfl, by decide +kernel, by decide +kernel⟩
theorem scCount : FnScope ["_law_thing", "_law_least"] ["_law_thing", "_law_least"] (defScope sCount) := ⟨rfl, rfl, rfl, by decide +kernel, rfl, by decide +kernel, by decide +kernel⟩
theorem scReserved : FnScope ["_law_some"] [] (defScope sReserved) := ⟨rfl, rfl, rfl, by decide +kernel, rfl, by decide +kernel, by decide +kernel⟩
theorem scLName : FnScope ["_law_thing", "_law_sign"] ["_law_thing"] (defScope sLName) := ⟨rfl, rfl, rfl, by decide +kernel, rfl, by decide +kernel, by decide +kernel⟩
def spFirst : Sp := fun vs H Q _ => ∃ s : Str, vs = [.str s] ∧ ∀ H', Same H H' → Q (.int (firstN s)) H'
def spStrs (l : List Str) : Sp := fun vs H Q _ => vs = [] ∧ ∀ (p : Addr) (H' : Hp), Same H H' → H' p = some (.lst (l.map V.str)) → H p = none → Q (.ref p) H'
def spCnt (K : PySem.W.Frag) : Sp := fun vs H Q _ => ∃ (v : V) (d : PyData) (n : Nat) (l : Int), vs = [v, .int l] ∧ Dv K H n v d ∧ ∀ H', Same H H' → Q (.bl (cntD l d)) H'
theorem sing_in (s : Str) : inV (.str s) (SINGl.map V.str) = decide (s ∈ SINGl) := inV_strs _
theorem ok_first {f : Addr} {fd : FuncData} (F : Fun K "_law_first" "_law_first" sFirst f fd) (B : BI mg) : FnOk P w K mg base CX0 1 f fd ["_law_head"] spFirst := by
  refine F.ok scFirst (fun vs H Q E h => ?_) (fun cdv A outer s H vs Q E hr h => ?_)
  · obtain ⟨z, rfl, _⟩ := h
    rfl
  · obtain ⟨z, rfl, q⟩ := h
    have hu : (A.deeper (envOfC "_law_first" (defScope sFirst) s.heap.objs.size f cdv)).units + 1 < cLine := by
      have := hr.un
      omega
    refine ⟨_, pss_one (ps_ret (pe_dget2 hu (pe_disp (pps_cons pe_str pe_int (pps_cons pe_str pe_int (pps_cons pe_str pe_int pps_nil))) rfl rfl (by decide) (by decide)) (pv 0)
      (pe_callTy call_int1 (by rfl) B.int (by decide +kernel) (pa_cons (pe_cmpR op_in_seq (pv 0) (pe_tup (pa_cons pe_str (pa_cons pe_str (pa_cons pe_str (pa_cons pe_str (pa_cons pe_str (pa_cons pe_str pa_nil))))))) (by rfl)) pa_nil)) ⟨rfl, rfl, rfl, rfl⟩)), ?_⟩
    refine fun p np => ?_
    have hp0 : (upd H p (.dK [])) p = some (.dK []) := upd_same
    refine ⟨hp0, [((.inr "fun" : Key), V.int 1), (.inr "use", .int 2), (.inr "made", .int 0)], rfl, (by decide), ?_⟩
    have hm : mergeK [] [((.inr "fun" : Key), V.int 1), (.inr "use", .int 2), (.inr "made", .int 0)] = [((.inr "fun" : Key), V.int 1), (.inr "use", .int 2), (.inr "made", .int 0)] := by rfl
    rw [hm]
    have s2 : Same H (upd (upd H p (.dK [])) p (.dK [((.inr "fun" : Key), V.int 1), (.inr "use", .int 2), (.inr "made", .int 0)])) := fun b o e => by
      rw [upd_ne (ne_of_none e np), upd_ne (ne_of_none e np)]
      exact e
    have hp2 : (upd (upd H p (.dK [])) p (.dK [((.inr "fun" : Key), V.int 1), (.inr "use", .int 2), (.inr "made", .int 0)])) p = some (.dK [((.inr "fun" : Key), V.int 1), (.inr "use", .int 2), (.inr "made", .int 0)]) := upd_same
    generalize upd (upd H p (.dK [])) p (.dK [((.inr "fun" : Key), V.int 1), (.inr "use", .int 2), (.inr "made", .int 0)]) = H2 at s2 hp2 ⊢
    refine ⟨p, rfl, isD_of hp2, _, rfl, _, rfl, (by show 6 ≤ sizeLine; decide), fun t nt => ?_⟩
    have s3 := same_new (o := .tup (SINGl.map V.str)) nt
    refine ⟨t, SINGl.map V.str, rfl, .inr (SqT.of upd_same), rfl, strs_flat _, ?_⟩
    rw [if_neg Bool.false_ne_true, sing_in]
    refine .inr ⟨_, rfl, _, DGet.k (k := .inr z) (s3 _ _ hp2), ?_⟩
    have fin := q _ (s2.trans s3)
    unfold firstN at fin
    rw [valV_s, valV_s, valV_s, valV_0]
    by_cases e1 : z = "fun"
    · rw [if_pos e1] at fin
      rw [if_pos e1.symm]
      exact fin
    · rw [if_neg e1] at fin
      rw [if_neg fun x => e1 x.symm]
      by_cases e2 : z = "use"
      · rw [if_pos e2] at fin
        rw [if_pos e2.symm]
        exact fin
      · rw [if_neg e2] at fin
        rw [if_neg fun x => e2 x.symm]
        by_cases e3 : z = "made"
        · rw [if_pos e3] at fin
          rw [if_pos e3.symm]
          exact fin
        · rw [if_neg e3] at fin
          rw [if_neg fun x => e3 x.symm]
          by_cases e4 : z ∈ SINGl
          · rw [if_pos e4] at fin
            rw [decide_eq_true e4]
            exact fin
          · rw [if_neg e4] at fin
            rw [decide_eq_false e4]
            exact fin
theorem ok_ones {f : Addr} {fd : FuncData} (F : Fun K "_law_ones" "_law_ones" sOnes f fd) : FnOk P w K mg base CX0 1 f fd [] (spStrs ONESl) := by
  refine F.ok scOnes (fun vs H Q E h => ?_) (fun cdv A outer s H vs Q E hr h => ?_)
  · obtain ⟨rfl, _⟩ := h
    rfl
  · obtain ⟨rfl, q⟩ := h
    refine ⟨_, pss_one (ps_ret (pe_lst (pa_cons pe_str (pa_cons pe_str (pa_cons pe_str (pa_cons pe_str (pa_cons pe_str (pa_cons pe_str (pa_cons pe_str (pa_cons pe_str (pa_cons pe_str pa_nil))))))))))), ?_⟩
    exact ⟨(by show 9 ≤ sizeLine; decide), fun p np => q p _ (same_new np) upd_same np⟩
theorem ok_twos {f : Addr} {fd : FuncData} (F : Fun K "_law_twos" "_law_twos" sTwos f fd) : FnOk P w K mg base CX0 1 f fd [] (spStrs TWOSl) := by
  refine F.ok scTwos (fun vs H Q E h => ?_) (fun cdv A outer s H vs Q E hr h => ?_)
  · obtain ⟨rfl, _⟩ := h
    rfl
  · obtain ⟨rfl, q⟩ := h
    refine ⟨_, pss_one (ps_ret (pe_lst (pa_cons pe_str (pa_cons pe_str (pa_cons pe_str (pa_cons pe_str (pa_cons pe_str (pa_cons pe_str (pa_cons pe_str (pa_cons pe_str pa_nil)))))))))), ?_⟩
    exact ⟨(by show 8 ≤ sizeLine; decide), fun p np => q p _ (same_new np) upd_same np⟩
theorem ok_reserved {f fO fT : Addr} {fd dO dT : FuncData} (F : Fun K "_law_reserved" "_law_reserved" sReserved f fd) (CO : Cal P w K mg base "_law_ones" 1 fO dO [] [] (spStrs ONESl)) (CT : Cal P w K mg base "_law_twos" 1 fT dT [] [] (spStrs TWOSl)) :
    FnOk P w K mg base CX0 2 f fd [] (spStrs RESw) := by
  refine F.ok scReserved (fun vs H Q E h => ?_) (fun cdv A outer s H vs Q E hr h => ?_)
  · obtain ⟨rfl, _⟩ := h
    rfl
  · obtain ⟨rfl, q⟩ := h
    refine ⟨_, pss_cons (ps_set (i := 0) scReserved.nd rfl (.inl rfl) pe_str) (pss_one (ps_ret (pe_op op_cat (pe_op op_cat (pe_split (pv 0) pe_str) (pe_call0 CO.G hr rfl CO.m CO.k CO.b .nil pass0))
      (pe_call0 CT.G hr rfl CT.m CT.k CT.b .nil pass0)))), ?_⟩
    refine ⟨_, rfl, ⟨_, rfl⟩, RES0, " ", rfl, rfl, (by decide), (by decide +kernel), fun p0 n0 => ?_⟩
    rw [res_split]
    have s0 := same_new (o := .lst (RES1.map V.str)) n0
    have h0 : (upd H p0 (.lst (RES1.map V.str))) p0 = some (.lst (RES1.map V.str)) := upd_same
    generalize upd H p0 (.lst (RES1.map V.str)) = H0 at s0 h0 ⊢
    refine ⟨rfl, fun p1 H1 s1 h1 n1 => ?_⟩
    refine ⟨p0, p1, _, _, rfl, rfl, s1 _ _ h0, h1, (by decide +kernel), fun p2 n2 => ?_⟩
    rw [← List.map_append]
    have s2 := same_new (o := .lst ((RES1 ++ ONESl).map V.str)) n2
    have h2 : (upd H1 p2 (.lst ((RES1 ++ ONESl).map V.str))) p2 = some (.lst ((RES1 ++ ONESl).map V.str)) := upd_same
    generalize upd H1 p2 (.lst ((RES1 ++ ONESl).map V.str)) = H2 at s2 h2 ⊢
    refine ⟨rfl, fun p3 H3 s3 h3 n3 => ?_⟩
    refine ⟨p2, p3, _, _, rfl, rfl, s3 _ _ h2, h3, (by decide +kernel), fun p4 n4 => ?_⟩
    rw [← List.map_append]
    have all : Same H H3 := s0.trans (s1.trans (s2.trans s3))
    refine q p4 _ (all.trans (same_new n4)) upd_same ?_
    cases e : H p4 with
    | none => rfl
    | some o => rw [all _ _ e] at n4; cases n4
end
end K02

set_option Elab.async false
set_option linter.all false
set_option maxRecDepth 100000
set_option maxHeartbeats 4000000
namespace K02
open PySem PySem.Spec PyProof.Rows L2
theorem take_filter {α : Type} {p : α → Bool} {l : List α} {i : Nat} {c : α} (h : l[i]? = some c) : (l.take (i + 1)).filter p = (l.take i).filter p ++ (if p c = true then [c] else []) := by
  rw [List.take_add_one, h, List.filter_append]
  by_cases e : p c = true <;> simp [e]
theorem filter_len {α : Type} (p : α → Bool) (l : List α) : (l.filter p).length ≤ l.length := List.length_filter_le p l
theorem filter_nil {α : Type} {p : α → Bool} {l : List α} : (l.filter fun x => !p x).isEmpty = l.all p := by
  induction l with
  | nil => rfl
  | cons a l ih =>
    by_cases e : p a = true
    · simp only [List.filter_cons, e, Bool.not_true, if_neg Bool.false_ne_true, List.all_cons, Bool.true_and]
      exact ih
    · have e' : p a = false := Bool.eq_false_iff.mpr e
      simp [List.filter_cons, e']
theorem eqv_nilL (ds : List PyData) : PyData.eqv (.list ds) (.list []) = ds.isEmpty := by
  cases ds <;> simp [PyData.eqv, PyData.eqvAll]
theorem nil_shapedL : SeqAt.shaped (.list []) = true := by decide +kernel
theorem sign_dp {K : PySem.W.Frag} {H : Hp} : ∀ l : List Nat, DpAll K H (l.map fun c => V.str ⟨#[c]⟩) (l.map fun c => PyData.str ⟨#[c]⟩)
  | [] => .nil
  | _ :: l => .cons (.str _) (sign_dp l)
theorem sign_ok {x : Str} {c : Nat} (h : PyData.strOk x = true) (hc : c ∈ x.cps.toList) : leafD (.str ⟨#[c]⟩) = true := by
  have h1 : x.cps.all (· < 0x110000) = true := h
  have h2 : decide (c < 0x110000) = true := by
    rw [Array.all_eq_true] at h1
    obtain ⟨i, hi, e⟩ := List.getElem_of_mem hc
    have := h1 i (by simpa using hi)
    rw [← e]
    simpa using this
  show (PyData.strOk ⟨#[c]⟩ && _) = true
  have h3 : PyData.strOk ⟨#[c]⟩ = true := by
    show (#[c] : Array Nat).all (· < 0x110000) = true
    simp
    exact of_decide_eq_true h2
  rw [h3]
  rfl
section
variable {P : Program} {w : World} {K : PySem.W.Frag} {mg : Str → Option Value} {base : Heap}
theorem ok_count {f : Addr} {fd : FuncData} (F : Fun K "_law_is_count" "_law_is_count" sCount f fd) (B : BI mg) : FnOk P w K mg base CX0 1 f fd ["_law_thing", "_law_least"] (spCnt K) := by
  refine F.ok scCount (fun vs H Q E h => ?_) (fun cdv A outer s H vs Q E hr h => ?_)
  · obtain ⟨v, d, n, l, rfl, _⟩ := h
    rfl
  · obtain ⟨v, d, n, l, rfl, hv, q⟩ := h
    refine ⟨_, pss_one (ps_ret (pe_and (pe_callB call_isi (by rfl) B.isi (by decide +kernel) (pa_cons (pv 0) (pa_cons (pe_bltn (v := .ty "int") (by rfl) B.int (by decide +kernel) rfl) pa_nil)))
      (pe_and (pe_not (pe_callB call_isi (by rfl) B.isi (by decide +kernel) (pa_cons (pv 0) (pa_cons (pe_bltn (v := .ty "bool") (by rfl) B.bool (by decide +kernel) rfl) pa_nil))))
      (pe_one (pe_cmpR op_ge (pv 0) (pv 1) (nomark _)))))), ?_⟩
    refine ⟨_, rfl, v, _, _, _, _, rfl, .ty _, ty_of hv.1, k_num, _, rfl, ?_⟩
    have fin := q H (Same.refl _)
    refine ite2 (fun c => ?_) (fun c => ?_)
    · refine ⟨_, rfl, v, _, _, _, _, rfl, .ty _, ty_of hv.1, k_bl, _, rfl, _, rfl, ?_⟩
      refine ite2 (fun c2 => ?_) (fun c2 => ?_)
      · cases d with
        | int i =>
          have h1 := hv.1
          cases h1
          exact ⟨_, rfl, _, rfl, _, _, rfl, rfl, fin⟩
        | bool b => cases c2
        | _ => cases c
      · cases d with
        | int i => exact absurd rfl c2
        | bool b => exact fin
        | _ => cases c
    · have e : cntD l d = false := by
        cases d <;> first | rfl | exact absurd rfl c
      rw [e] at fin
      exact fin
theorem ok_lname {f fR : Addr} {fd dR : FuncData} (F : Fun K "_law_is_name" "_law_is_name" sLName f fd) (B : BI mg) (CR : Cal P w K mg base "_law_reserved" 2 fR dR [] [] (spStrs RESw)) : FnOk P w K mg base CX0 3 f fd ["_law_thing"] (spP K nameD) := by
  refine F.ok scLName (fun vs H Q E h => ?_) (fun cdv A outer s H vs Q E hr h => ?_)
  · obtain ⟨v, d, n, rfl, _⟩ := h
    rfl
  · obtain ⟨v, d, n, rfl, hv, hn, q⟩ := h
    have hu : (A.deeper (envOfC "_law_is_name" (defScope sLName) s.heap.objs.size f cdv)).units + 64 < cLine := by
      have := hr.un
      omega
    refine ⟨_, pss_cons (ps_if (PW.pt (pw_or (pt_not (pt_val (pe_callB call_isi (by rfl) B.isi (by decide +kernel) (pa_cons (pv 0) (pa_cons (pe_bltn (v := .ty "str") (by rfl) B.str (by decide +kernel) rfl) pa_nil)))))
        (pw_or (pt_not (pt_chain op_le op_le pe_int (pe_callB call_len_str rfl B.len PySem.boot_len (pa_cons (pv 0) pa_nil)) pe_int))
        (pw_or1 (pt_cmpR op_in_seq (pv 0) (pe_call0 CR.G hr rfl CR.m CR.k CR.b .nil pass0) (by rfl)))))) (pss_one (ps_ret pe_bl)) pss_nil)
      (pss_one (ps_ret (pe_cmpR (op_eqD hu) 
          (pe_lc (own := [("_law_sign", 1)]) (g := gName 1) rfl scLName.nd (pi_str (pv 0)) (blkOk_by (N := ["_law_thing", "_law_sign"]) (sc := defScope sLName) (by decide +kernel))
            (fun _ _ _ _ _ => pg_name (i := 1) scLName.nd rfl (Or.inl rfl)) (fun _ _ _ _ _ => pts_one (pt_cmpR op_notIn_sign (pv 1) pe_str (by rfl))) (fun _ _ _ _ _ => pv 1)) (pe_lst pa_nil) (nomark _)))), ?_⟩
    refine ⟨_, rfl, v, _, _, _, _, rfl, .ty _, ty_of hv.1, k_str, _, rfl, ?_⟩
    have fin := q H (Same.refl _)
    cases d with
    | str x =>
      have h1 := hv.1
      cases h1
      have z' : leafD (.str x) = true := by
        have z := hv.2
        cases n with
        | zero => exact z
        | succ n =>
          rcases z with z | ⟨ds, e, _⟩
          · exact z
          · rcases e with e | e <;> cases e
      have z2 : (PyData.strOk x && decide (x.length ≤ 100)) = true := z'
      rw [Bool.and_eq_true] at z2
      have hx : x.length ≤ 100 := of_decide_eq_true z2.2
      refine iteF ?_
      have fq : ∀ H', Same H H' → Q (.bl (!(decide (x ∈ RESl)) && ((decide (1 ≤ x.length) && decide (x.length ≤ 8)) && signsOk x))) H' := q
      have fail : ((decide (1 ≤ x.length) && decide (x.length ≤ 8)) = false) → Q (.bl false) H := fun e => by
        have z := fq H (Same.refl _)
        rw [e] at z
        simp only [Bool.false_and, Bool.and_false] at z
        exact z
      refine ⟨_, rfl, x, rfl, Nat.le_of_lt (small1000 (by omega)), _, _, rfl, rfl, _, rfl, ?_⟩
      refine ite2 (fun c1 => ?_) (fun c1 => ?_)
      · have g1 : (1 : Int) ≤ (x.length : Int) := of_decide_eq_true c1
        have e1 : decide (1 ≤ x.length) = true := decide_eq_true (by omega)
        refine ⟨_, _, rfl, rfl, _, rfl, ?_⟩
        refine ite2 (fun c2 => ?_) (fun c2 => ?_)
        · have g2 : decide ((x.length : Int) ≤ 8) = false := by simpa using c2
          have e2 : decide (x.length ≤ 8) = false := decide_eq_false fun z => (of_decide_eq_false g2) (by omega)
          exact fail (by rw [e1, e2]; rfl)
        · have g2 : decide ((x.length : Int) ≤ 8) = true := by simpa using c2
          have g3 := of_decide_eq_true g2
          have e2 : decide (x.length ≤ 8) = true := decide_eq_true (by omega)
          rw [e1, e2] at fq
          refine ⟨_, rfl, rfl, fun p H1 s1 hp np => ?_⟩
          refine ⟨p, RESw.map V.str, rfl, .inl (SqL.of hp), rfl, strs_flat _, _, rfl, ?_⟩
          rw [if_neg Bool.false_ne_true, inV_strs, res_same]
          refine ite2 (fun c3 => ?_) (fun c3 => ?_)
          · have z := fq H1 s1
            rw [c3] at z
            exact z
          · rw [Bool.eq_false_iff.mpr c3] at fq
            refine ⟨_, rfl, x, rfl, fun D nD => ?_⟩
            refine lc_str (x := x) (fun i H2 => Same H1 H2 ∧ H2 D = some (.lst (((x.cps.toList.take i).filter fun c => !decide (c ∈ LETd.cps.toList)).map fun c => V.str ⟨#[c]⟩))) ⟨same_new nD, upd_same⟩ ?_ ?_
            · rintro i cc H2 hc ⟨s2, eD⟩
              refine ⟨rfl, ?_⟩
              have hcc : x.cps.toList[i]? = some cc := by rw [← hc]; simp
              refine ⟨_, rfl, cc, LETd, rfl, rfl, _, rfl, ?_⟩
              refine ite2 (fun c4 => ?_) (fun c4 => ?_)
              · refine ⟨_, rfl, _, eD, ?_, fun b o e => ?_, ?_⟩
                · have l1 := filter_len (fun c => !decide (c ∈ LETd.cps.toList)) (x.cps.toList.take i)
                  have hl : x.cps.toList.length = x.length := Array.length_toList ..
                  rw [List.length_take] at l1
                  rw [List.length_map]
                  exact small1000 (by omega)
                · by_cases hb : b = D
                  · rw [hb, nD] at e
                    cases e
                  · rw [upd_ne hb]
                    exact s2 _ _ e
                · rw [upd_same, take_filter hcc, if_pos c4, List.map_append]
                  rfl
              · refine ⟨s2, ?_⟩
                rw [eD, take_filter hcc, if_neg c4, List.append_nil]
            · rintro H2 ⟨s2, eD⟩
              rw [take_full (show x.cps.size = x.cps.toList.length from (Array.length_toList ..).symm)] at eD
              refine ⟨Nat.zero_le _, fun p2 np2 => ?_⟩
              have s3 : Same H2 (upd H2 p2 (.lst [])) := same_new np2
              refine ⟨.list ((x.cps.toList.filter fun c => !decide (c ∈ LETd.cps.toList)).map fun c => PyData.str ⟨#[c]⟩), .list [], .lst (SqL.of (s3 _ _ eD)) (sign_dp _), .lst (SqL.of upd_same) .nil, ?_, nil_shapedL, ?_⟩
              · refine (okD.shaped (n := 1) (.inr ⟨_, .inr rfl, ?_, fun d hd => ?_⟩) (by decide))
                · rw [List.length_map]
                  have l1 := filter_len (fun c => !decide (c ∈ LETd.cps.toList)) x.cps.toList
                  have hl : x.cps.toList.length = x.length := Array.length_toList ..
                  omega
                · obtain ⟨c, hc, rfl⟩ := List.mem_map.mp hd
                  exact sign_ok z2.1 (List.mem_filter.mp hc).1
              · rw [eqv_nilL, List.isEmpty_map, filter_nil]
                exact fq _ (s1.trans (s2.trans s3))
      · have e1 : decide (1 ≤ x.length) = false := decide_eq_false (fun z => c1 (decide_eq_true (by omega)))
        exact ⟨_, rfl, iteT (fail (by rw [e1]; rfl))⟩
    | _ => exact iteT fin
end
end K02

set_option Elab.async false
set_option linter.all false
set_option maxRecDepth 100000
set_option maxHeartbeats 4000000
namespace K02
open PySem PySem.Spec PyProof.Rows L2
theorem cnt0 (d : PyData) : cntD 0 d = idxD d := by cases d <;> rfl
theorem all_bad {α : Type} {p : α → Bool} {l : List α} {i : Nat} {c : α} (h : l[i]? = some c) (e : p c = false) : l.all p = false := by
  rw [List.all_eq_false]
  exact ⟨c, List.mem_of_getElem? h, by rw [e]; exact Bool.false_ne_true⟩
theorem all_take {α : Type} {p : α → Bool} {l : List α} {i : Nat} {c : α} (h : l[i]? = some c) (a : (l.take i).all p = true) (e : p c = true) : (l.take (i + 1)).all p = true := by
  rw [List.take_add_one, h, List.all_append, a]
  simp [e]
theorem mark_three {w r q : PyData} {ps : List PyData} (e : q = .tuple ps) : markD (.tuple [w, r, q]) = (nameD w && (idxD r && ps.all idxD)) := by
  subst e
  rfl
theorem mark_bad3 {w r q : PyData} (e : isTup q = false) : markD (.tuple [w, r, q]) = false := by
  cases q <;> first | rfl | cases e
theorem mark_bad1 {w r q : PyData} (e : nameD w = false) : markD (.tuple [w, r, q]) = false := by
  cases q <;> simp [markD, e]
theorem mark_bad2 {w r q : PyData} (e : idxD r = false) : markD (.tuple [w, r, q]) = false := by
  cases q <;> simp [markD, e]
theorem mark_badT {d : PyData} (e : isTup d = false) : markD d = false := by
  cases d <;> first | rfl | cases e
section
variable {P : Program} {w : World} {K : PySem.W.Frag} {mg : Str → Option Value} {base : Heap}
theorem ok_link {f fN fC : Addr} {fd dN dC : FuncData} (F : Fun K "_law_is_ink" "_law_is_ink" sLInk f fd) (B : BI mg) (CN : Cal P w K mg base "_law_is_name" 3 fN dN ["_law_thing"] [] (spP K nameD))
    (CC : Cal P w K mg base "_law_is_count" 1 fC dC ["_law_thing", "_law_least"] [] (spCnt K)) : FnOk P w K mg base CX0 4 f fd ["_law_thing"] (spP K inkD) := by
  refine F.ok scLInk (fun vs H Q E h => ?_) (fun cdv A outer s H vs Q E hr h => ?_)
  · obtain ⟨v, d, n, rfl, _⟩ := h
    rfl
  · obtain ⟨v, d, n, rfl, hv, hn, q⟩ := h
    have hr1 : Room 1 _ := hr.mono (by decide)
    have hu : (A.deeper (envOfC "_law_is_ink" (defScope sLInk) s.heap.objs.size f cdv)).units + 64 < cLine := by
      have := hr.un
      omega
    refine ⟨_, pss_cons (ps_if (pt_not (pt_val (pe_callB call_isi (by rfl) B.isi (by decide +kernel) (pa_cons (pv 0) (pa_cons (pe_bltn (v := .ty "tuple") (by rfl) B.tup (by decide +kernel) rfl) pa_nil))))) (pss_one (ps_ret pe_bl)) pss_nil)
      (pss_cons (ps_for PassesOwn.never rfl (pi_tup (pv 0)) (pg_name (i := 1) scLInk.nd rfl (.inl rfl))
        (pss_cons (ps_if (PW.pt (pw_or (pt_not (pt_val (pe_callB call_isi (by rfl) B.isi (by decide +kernel) (pa_cons (pv 1) (pa_cons (pe_bltn (v := .ty "tuple") (by rfl) B.tup (by decide +kernel) rfl) pa_nil)))))
            (pw_or (pt_cmpR op_ne (pe_callB call_len_seq (by rfl) B.len PySem.boot_len (pa_cons (pv 1) pa_nil)) pe_int (nomark _))
            (pw_or1 (pt_not (pt_val (pe_call CN.G hr rfl CN.m CN.k CN.b .nil pass0 (pa_cons (pe_ix ix_tup (pv 1) pe_int (fun _ _ => rfl)) pa_nil)))))))) (pss_one (ps_ret pe_bl)) pss_nil)
        (pss_cons (ps_if (PW.pt (pw_or (pt_not (pt_val (pe_call CC.G hr1 rfl CC.m CC.k CC.b .nil pass0 (pa_cons (pe_ix ix_tup (pv 1) pe_int (fun _ _ => rfl)) (pa_cons pe_int pa_nil)))))
            (pw_or1 (pt_not (pt_val (pe_callB call_isi (by rfl) B.isi (by decide +kernel) (pa_cons (pe_ix ix_tup (pv 1) pe_int (fun _ _ => rfl)) (pa_cons (pe_bltn (v := .ty "tuple") (by rfl) B.tup (by decide +kernel) rfl) pa_nil)))))))) (pss_one (ps_ret pe_bl)) pss_nil)
        (pss_one (ps_if (pt_cmpR (op_neD hu)
          (pe_lc (own := [("_law_one", 2)]) (g := gName 2) rfl scLInk.nd (pi_tup (pe_ix ix_tup (pv 1) pe_int (fun _ _ => rfl))) (blkOk_by (N := ["_law_thing", "_law_mark_here", "_law_one"]) (sc := defScope sLInk) (by decide +kernel))
            (fun _ _ _ _ _ => pg_name (i := 2) scLInk.nd rfl (Or.inl rfl)) (fun _ _ _ _ _ => pts_one (pt_not (pt_val (pe_call CC.G hr1 rfl CC.m CC.k CC.b .nil pass0 (pa_cons (pv 2) (pa_cons pe_int pa_nil)))))) (fun _ _ _ _ _ => pv 2)) (pe_lst pa_nil) (nomark _)) (pss_one (ps_ret pe_bl)) pss_nil)))))
      (pss_one (ps_ret pe_bl))), ?_⟩
    refine ⟨_, rfl, v, _, _, _, _, rfl, .ty _, ty_of hv.1, k_tup, _, rfl, ?_⟩
    have fin := q H (Same.refl _)
    cases d with
    | tuple ds =>
      obtain ⟨a, xs, m, rfl, rfl, ht⟩ := hv.tup
      have len := ht.len
      refine iteF ?_
      have fq : ∀ b H', Same H H' → ds.all markD = b → Q (.bl b) H' := fun b H' s' e => by
        have z := q H' s'
        rw [← e]
        exact z
      refine ⟨_, rfl, a, rfl, ⟨xs, ht.1⟩, ?_⟩
      refine for_tup (K := K) (a := a) (xs := xs) (fun i σ H2 => Same H H2 ∧ (∃ o1 o2, σ = [some (.ref a), o1, o2]) ∧ (ds.take i).all markD = true) ⟨Same.refl _, ⟨none, none, rfl⟩, rfl⟩ (fun i σ H2 _ p => SqT_same p.1 ht.1) ?_ ?_
      · rintro i x σ H2 hx ⟨s2, ⟨o1, o2, rfl⟩, ha⟩
        obtain ⟨d, hd, hxd0⟩ := dpa_get ht.2.1 hx
        have hxd : Dv K H2 m x d := ⟨dp_mono s2 d x hxd0, ht.2.2.2 d (List.mem_of_getElem? hd)⟩
        have bad : ∀ H', Same H2 H' → markD d = false → Q (.bl false) H' := fun H' s' e => fq _ H' (s2.trans s') (all_bad hd e)
        refine ⟨_, rfl, x, _, _, _, _, rfl, .ty _, ty_of hxd.1, k_tup, _, rfl, ?_⟩
        refine ite2 (fun c => ?_) (fun c => ?_)
        · exact bad H2 (Same.refl _) (mark_badT (by simpa using c))
        · cases d with
          | tuple es =>
            obtain ⟨b, ys, m1, rfl, rfl, hb⟩ := hxd.tup
            have len2 := hb.len
            refine ⟨_, rfl, b, ys, rfl, .inr hb.1, rfl, _, rfl, ?_⟩
            refine ite2 (fun c2 => ?_) (fun c2 => ?_)
            · refine bad H2 (Same.refl _) (mark_len fun z => ?_)
              rw [len2, z] at c2
              exact absurd c2 (by decide)
            · have l3 : es.length = 3 := by
                have z : (!decide (V.int ((ys.length : Nat) : Int) = V.int 3)) = false := Bool.eq_false_iff.mpr c2
                have z2 : decide (V.int ((ys.length : Nat) : Int) = V.int 3) = true := by simpa using z
                have z3 := V.int.inj (of_decide_eq_true z2)
                omega
              match es, l3, hb, bad, hd with
              | [dw, dr, dp], _, hb, bad, hd =>
                obtain ⟨vw, ew, hw⟩ := hb.get (i := 0) rfl
                obtain ⟨vr, er, hr'⟩ := hb.get (i := 1) rfl
                obtain ⟨vp, ep, hp⟩ := hb.get (i := 2) rfl
                refine ⟨_, rfl, b, ys, _, _, rfl, rfl, hb.1, atI_nat (j := 0) ew, vw, dw, m1, rfl, hw, by omega, fun H3 s3 => ⟨_, rfl, ?_⟩⟩
                refine ite2 (fun c3 => ?_) (fun c3 => ?_)
                · exact bad H3 s3 (mark_bad1 (by simpa using c3))
                · have e3 : nameD dw = true := by simpa using c3
                  refine ⟨_, rfl, b, ys, _, _, rfl, rfl, SqT_same s3 hb.1, atI_nat (j := 1) er, vr, dr, m1, 0, rfl, hr'.mono s3, fun H4 s4 => ⟨_, rfl, ?_⟩⟩
                  rw [cnt0]
                  refine ite2 (fun c4 => ?_) (fun c4 => ?_)
                  · exact bad H4 (s3.trans s4) (mark_bad2 (by simpa using c4))
                  · have e4 : idxD dr = true := by simpa using c4
                    have hp4 := hp.mono (s3.trans s4)
                    refine ⟨_, rfl, b, ys, _, _, rfl, rfl, SqT_same (s3.trans s4) hb.1, atI_nat (j := 2) ep, vp, _, _, _, _, rfl, .ty _, ty_of hp4.1, k_tup, _, rfl, ?_⟩
                    refine ite2 (fun c5 => ?_) (fun c5 => ?_)
                    · exact bad H4 (s3.trans s4) (mark_bad3 (by simpa using c5))
                    · cases dp with
                      | tuple ps =>
                        obtain ⟨t, zs, m2, rfl, rfl, htz⟩ := hp4.tup
                        refine ⟨_, rfl, b, ys, _, _, rfl, rfl, SqT_same (s3.trans s4) hb.1, atI_nat (j := 2) ep, t, rfl, ⟨zs, htz.1⟩, fun D nD => ?_⟩
                        refine lc_tup (K := K) (a := t) (xs := zs) (fun k H5 => Same H4 H5 ∧ ∃ ws, H5 D = some (.lst ws) ∧ DpAll K H4 ws ((ps.take k).filter fun d => !idxD d)) ⟨same_new nD, [], upd_same, .nil⟩ (fun k H5 _ p => SqT_same p.1 htz.1) ?_ ?_
                        · rintro k u H5 hu5 ⟨s5, ws, eD, hws⟩
                          obtain ⟨du, eu, hdu⟩ := dpa_get htz.2.1 hu5
                          refine ⟨rfl, ?_⟩
                          refine ⟨_, rfl, u, du, m2, 0, rfl, ⟨dp_mono s5 du u hdu, htz.2.2.2 du (List.mem_of_getElem? eu)⟩, fun H6 s6 => ⟨_, rfl, ?_⟩⟩
                          rw [cnt0]
                          refine ite2 (fun c6 => ?_) (fun c6 => ?_)
                          · refine ⟨_, rfl, ws, s6 _ _ eD, ?_, fun bb o e => ?_, ws ++ [u], upd_same, ?_⟩
                            · have l1 := dpa_len hws
                              have l2 := filter_len (fun d => !idxD d) (ps.take k)
                              rw [List.length_take] at l2
                              have l3 := htz.2.2.1
                              exact small1000 (by omega)
                            · by_cases hb5 : bb = D
                              · rw [hb5, nD] at e
                                cases e
                              · rw [upd_ne hb5]
                                exact s6 _ _ (s5 _ _ e)
                            · rw [take_filter eu, if_pos c6]
                              exact dpa_append hws (.cons hdu .nil)
                          · refine ⟨s5.trans s6, ws, s6 _ _ eD, ?_⟩
                            rw [take_filter eu, if_neg c6, List.append_nil]
                            exact hws
                        · rintro H5 ⟨s5, ws, eD, hws⟩
                          rw [take_full htz.len] at hws
                          refine ⟨Nat.zero_le _, fun p2 np2 => ?_⟩
                          have s6 : Same H5 (upd H5 p2 (.lst [])) := same_new np2
                          refine ⟨.list (ps.filter fun d => !idxD d), .list [], .lst (SqL.of (s6 _ _ eD)) (dps_mono (s5.trans s6) _ _ hws), .lst (SqL.of upd_same) .nil, ?_, nil_shapedL, _, rfl, ?_⟩
                          · refine okD.shaped (n := m2 + 1) (.inr ⟨_, .inr rfl, ?_, fun d hd => ?_⟩) (by omega)
                            · have l2 := filter_len (fun d => !idxD d) ps
                              have l3 := htz.2.2.1
                              omega
                            · exact htz.2.2.2 d (List.mem_filter.mp hd).1
                          · rw [eqv_nilL, filter_nil]
                            have em : markD (.tuple [dw, dr, .tuple ps]) = ps.all idxD := by
                              rw [mark_three rfl, e3, e4]
                              rfl
                            have sA : Same H2 (upd H5 p2 (.lst [])) := s3.trans (s4.trans (s5.trans s6))
                            refine ite2 (fun c6 => ?_) (fun c6 => ?_)
                            · exact bad _ sA (by rw [em]; simpa using c6)
                            · refine ⟨s2.trans sA, ⟨_, _, rfl⟩, all_take hd ha (by rw [em]; simpa using c6)⟩
                      | _ => exact absurd rfl c5
          | _ => exact absurd rfl c
      · rintro σ H2 ⟨s2, _, ha⟩
        rw [take_full len] at ha
        exact fq true H2 s2 ha
    | _ => exact iteT fin
end
end K02

set_option Elab.async false
set_option linter.all false
set_option maxRecDepth 100000
set_option maxHeartbeats 400000
namespace K02
open PySem PySem.Spec PyProof.Rows L2
def HEADl : List Str := (RES1.take 14 ++ ONESl) ++ TWOSl
def PLl : List Str := (["int", "flag", "quote", "global", "ref", "name"] : List String).map Str.ofString
def QGl : List Str := (["quote", "global"] : List String).map Str.ofString
def MLl : List Str := (["made", "list"] : List String).map Str.ofString
def manyN (s : Str) : Int := if s = "let" then 2 else if s = "try" then 2 else if s = "if" then 3 else (if s ∈ ONESl then 1 else 0) + 2 * (if s ∈ TWOSl then 1 else 0)
/-- what is asked of the items that are no trees -/
def plainD (s : Str) (ds : List PyData) : Bool := if s = "made" then true else fitsD s ds
theorem head_cases : ∀ s ∈ HEADl, s ∈ PLl ∨ s = "fun" ∨ s = "use" ∨ (SZl.lookup s = some (manyN s) ∧ 0 < manyN s ∧ s ≠ "made") ∨ (manyN s = 0 ∧ (s = "made" ∨ s = "list" ∨ s = "call")) := by decide +kernel
theorem head_pl : ∀ s ∈ PLl, SZl.lookup s = none ∧ s ≠ "made" ∧ LSl.lookup s = none ∧ s ≠ "fun" ∧ s ≠ "use" ∧ s ∈ SINGl := by decide +kernel
theorem fits_pl {s : Str} {ds : List PyData} (h : s ∈ PLl) : plainD s ds = oneL s ds := by
  obtain ⟨h1, h2, h3, h4, h5, h6⟩ := head_pl s h
  unfold plainD fitsD
  rw [if_neg h2, h1]
  dsimp only
  rw [if_neg h2, h3]
  dsimp only
  rw [if_neg h4, if_neg h5, decide_eq_true h6, Bool.true_and]
theorem fits_fun {ds : List PyData} : plainD "fun" ds = funL ds := rfl
theorem fits_use {ds : List PyData} : plainD "use" ds = useL ds := rfl
theorem fits_sz {s : Str} {i : Int} {ds : List PyData} (h : SZl.lookup s = some i) (n : s ≠ "made") : plainD s ds = decide ((ds.length : Int) = i) := by
  unfold plainD fitsD
  rw [if_neg n, h]
theorem fits_made {ds : List PyData} : plainD "made" ds = true := rfl
theorem fits_list {ds : List PyData} : plainD "list" ds = true := by
  show decide ((0 : Int) ≤ (ds.length : Int)) = true
  exact decide_eq_true (by omega)
theorem fits_call {ds : List PyData} : plainD "call" ds = decide ((1 : Int) ≤ (ds.length : Int)) := rfl
theorem pl_cases : ∀ s ∈ PLl, s ∈ QGl ∨ s = "flag" ∨ s = "int" ∨ s = "ref" ∨ s = "name" := by decide +kernel
theorem single_qg : ∀ s ∈ QGl, s ≠ "flag" ∧ s ≠ "int" ∧ s ≠ "ref" ∧ s ≠ "name" := by decide +kernel
theorem cnt_int {n : Nat} {d : PyData} (h : okD n d) : cntD (-(10 ^ 60)) d = intD d := by
  cases d with
  | int i =>
    have z : leafD (.int i) = true := by
      cases n with
      | zero => exact h
      | succ n =>
        rcases h with h | ⟨ds, e, _⟩
        · exact h
        · rcases e with e | e <;> cases e
    exact z
  | _ => rfl
section
variable {P : Program} {w : World} {K : PySem.W.Frag} {mg : Str → Option Value} {base : Heap}
abbrev sPlain : Stmt := top 38
theorem scPlain : FnScope ["_law_head", "_law_items", "_law_many"] ["_law_head", "_law_items"] (defScope sPlain) := ⟨rfl, rfl, rfl, by decide +kernel, rfl, by decide +kernel, by decide +kernel⟩
def spPlain (K : PySem.W.Frag) : Sp := fun vs H Q _ => ∃ (s : Str) (a : Addr) (xs : List V) (ds : List PyData) (n : Nat), vs = [.str s, .ref a] ∧ s ∈ HEADl ∧ TupD K H n a xs ds ∧ n ≤ 60 ∧ ∀ H', Same H H' → Q (.bl (plainD s ds)) H'
/-- how many items, by the law's table, the head in slot i -/
def tMany (K : PySem.W.Frag) (i : Nat) : TE := tDGet2 (tDisp [(tC (V.str "let"), tC (V.int 2)), (tC (V.str "try"), tC (V.int 2)), (tC (V.str "if"), tC (V.int 3))]) (tVar i)
  (tOp (rI0 fun i j => V.int (i + j))
    (tOp (rI CMul fun i j => V.int (i * j)) (tC (V.int 1)) (tCB (fun xs H Q => (∃ i, xs = [V.int i] ∧ Q (V.int i) H) ∨ ∃ k, xs = [V.bl k] ∧ Q (V.int (if k = true then 1 else 0)) H) (tCons (tOp (rIn K false) (tVar i) (tCall (spStrs ONESl) [] E0 tNil)) tNil)))
    (tOp (rI CMul fun i j => V.int (i * j)) (tC (V.int 2)) (tCB (fun xs H Q => (∃ i, xs = [V.int i] ∧ Q (V.int i) H) ∨ ∃ k, xs = [V.bl k] ∧ Q (V.int (if k = true then 1 else 0)) H) (tCons (tOp (rIn K false) (tVar i) (tCall (spStrs TWOSl) [] E0 tNil)) tNil))))
theorem many_ok {σ : L2.St} {H : Hp} {Q : VK} {i : Nat} {z : Str} (hi : σ[i]? = some (some (.str z))) (q : ∀ H', Same H H' → Q (.int (manyN z)) H') : tMany K i σ H Q := by
  refine fun t nt => ?_
  have ht0 : (upd H t (.dK [])) t = some (.dK []) := upd_same
  refine ⟨ht0, [((.inr "let" : Key), V.int 2), (.inr "try", .int 2), (.inr "if", .int 3)], rfl, (by decide), ?_⟩
  have hm : mergeK [] [((.inr "let" : Key), V.int 2), (.inr "try", .int 2), (.inr "if", .int 3)] = [((.inr "let" : Key), V.int 2), (.inr "try", .int 2), (.inr "if", .int 3)] := by rfl
  rw [hm]
  have s2 : Same H (upd (upd H t (.dK [])) t (.dK [((.inr "let" : Key), V.int 2), (.inr "try", .int 2), (.inr "if", .int 3)])) := fun b o e => by
    rw [upd_ne (ne_of_none e nt), upd_ne (ne_of_none e nt)]
    exact e
  have hp2 : (upd (upd H t (.dK [])) t (.dK [((.inr "let" : Key), V.int 2), (.inr "try", .int 2), (.inr "if", .int 3)])) t = some (.dK [((.inr "let" : Key), V.int 2), (.inr "try", .int 2), (.inr "if", .int 3)]) := upd_same
  generalize upd (upd H t (.dK [])) t (.dK [((.inr "let" : Key), V.int 2), (.inr "try", .int 2), (.inr "if", .int 3)]) = H2 at s2 hp2 ⊢
  refine ⟨t, rfl, isD_of hp2, _, hi, _, hi, rfl, fun p1 H3 s3 h3 _ => ⟨p1, _, rfl, .inl (SqL.of h3), rfl, strs_flat _, ?_⟩⟩
  rw [if_neg Bool.false_ne_true, inV_strs]
  refine .inr ⟨_, rfl, ?_⟩
  have last : ∀ (a b : Int) (H5 : Hp), Same H3 H5 → (if z ∈ ONESl then (1 : Int) else 0) = a → (if z ∈ TWOSl then (1 : Int) else 0) = b → ∃ o, DGet H5 t (.str z) o ∧ Q (o.getD (.int (1 * a + 2 * b))) H5 := fun a b H5 s5 ea eb => by
    refine ⟨_, DGet.k (k := .inr z) (s5 _ _ (s3 _ _ hp2)), ?_⟩
    have fin := q _ (s2.trans (s3.trans s5))
    unfold manyN at fin
    rw [valV_s, valV_s, valV_s, valV_0]
    by_cases e1 : z = "let"
    · rw [if_pos e1] at fin
      rw [if_pos e1.symm]
      exact fin
    · rw [if_neg e1] at fin
      rw [if_neg fun x => e1 x.symm]
      by_cases e2 : z = "try"
      · rw [if_pos e2] at fin
        rw [if_pos e2.symm]
        exact fin
      · rw [if_neg e2] at fin
        rw [if_neg fun x => e2 x.symm]
        by_cases e3 : z = "if"
        · rw [if_pos e3] at fin
          rw [if_pos e3.symm]
          exact fin
        · rw [if_neg e3, ea, eb] at fin
          rw [if_neg fun x => e3 x.symm, Int.one_mul]
          exact fin
  by_cases h1 : z ∈ ONESl
  · rw [decide_eq_true h1]
    refine ⟨_, _, rfl, rfl, .inl ⟨by decide, by decide⟩, _, hi, rfl, fun p2 H5 s5 h5 _ => ⟨p2, _, rfl, .inl (SqL.of h5), rfl, strs_flat _, ?_⟩⟩
    rw [if_neg Bool.false_ne_true, inV_strs]
    refine .inr ⟨_, rfl, ?_⟩
    by_cases h2 : z ∈ TWOSl
    · rw [decide_eq_true h2]
      exact ⟨_, _, rfl, rfl, .inl ⟨by decide, by decide⟩, _, _, rfl, rfl, last _ _ H5 s5 (if_pos h1) (if_pos h2)⟩
    · rw [decide_eq_false h2]
      exact ⟨_, _, rfl, rfl, .inl ⟨by decide, by decide⟩, _, _, rfl, rfl, last _ _ H5 s5 (if_pos h1) (if_neg h2)⟩
  · rw [decide_eq_false h1]
    refine ⟨_, _, rfl, rfl, .inl ⟨by decide, by decide⟩, _, hi, rfl, fun p2 H5 s5 h5 _ => ⟨p2, _, rfl, .inl (SqL.of h5), rfl, strs_flat _, ?_⟩⟩
    rw [if_neg Bool.false_ne_true, inV_strs]
    refine .inr ⟨_, rfl, ?_⟩
    by_cases h2 : z ∈ TWOSl
    · rw [decide_eq_true h2]
      exact ⟨_, _, rfl, rfl, .inl ⟨by decide, by decide⟩, _, _, rfl, rfl, last _ _ H5 s5 (if_neg h1) (if_pos h2)⟩
    · rw [decide_eq_false h2]
      exact ⟨_, _, rfl, rfl, .inl ⟨by decide, by decide⟩, _, _, rfl, rfl, last _ _ H5 s5 (if_neg h1) (if_neg h2)⟩
theorem ok_plain {f fN fC fO fT : Addr} {fd dN dC dO dT : FuncData} (F : Fun K "_law_is_plain" "_law_is_plain" sPlain f fd) (B : BI mg) (CN : Cal P w K mg base "_law_is_name" 3 fN dN ["_law_thing"] [] (spP K nameD))
    (CC : Cal P w K mg base "_law_is_count" 1 fC dC ["_law_thing", "_law_least"] [] (spCnt K)) (CO : Cal P w K mg base "_law_ones" 1 fO dO [] [] (spStrs ONESl)) (CT : Cal P w K mg base "_law_twos" 1 fT dT [] [] (spStrs TWOSl)) :
    FnOk P w K mg base CX0 4 f fd ["_law_head", "_law_items"] (spPlain K) := by
  refine F.ok scPlain (fun vs H Q E h => ?_) (fun cdv A outer s H vs Q E hr h => ?_)
  · obtain ⟨z, a, xs, ds, n, rfl, _⟩ := h
    rfl
  · obtain ⟨z, a, xs, ds, n, rfl, hz, ht, hn, q⟩ := h
    have hr1 : Room 1 _ := hr.mono (by decide)
    have hu : (A.deeper (envOfC "_law_is_plain" (defScope sPlain) s.heap.objs.size f cdv)).units + 1 < cLine := by
      have := hr.un
      omega
    refine ⟨_, pss_cons (ps_if (pt_cmpR op_in_seq (pv 0) (pe_tup (pa_cons pe_str (pa_cons pe_str (pa_cons pe_str (pa_cons pe_str (pa_cons pe_str (pa_cons pe_str pa_nil))))))) (by rfl))
        (pss_cons (ps_if (pt_cmpR op_ne (pe_callB call_len_seq (by rfl) B.len PySem.boot_len (pa_cons (pv 1) pa_nil)) pe_int (nomark _)) (pss_one (ps_ret pe_bl)) pss_nil)
        (pss_cons (ps_if (pt_cmpR op_in_seq (pv 0) (pe_tup (pa_cons pe_str (pa_cons pe_str pa_nil))) (by rfl)) (pss_one (ps_ret (pe_call CN.G hr rfl CN.m CN.k CN.b .nil pass0 (pa_cons (pe_ix ix_tup (pv 1) pe_int (fun _ _ => rfl)) pa_nil)))) pss_nil)
        (pss_cons (ps_if (pt_cmpR op_eq (pv 0) pe_str (nomark _)) (pss_one (ps_ret (pe_callB call_isi (by rfl) B.isi (by decide +kernel) (pa_cons (pe_ix ix_tup (pv 1) pe_int (fun _ _ => rfl)) (pa_cons (pe_bltn (v := .ty "bool") (by rfl) B.bool (by decide +kernel) rfl) pa_nil))))) pss_nil)
        (pss_one (ps_ret (pe_call CC.G hr1 rfl CC.m CC.k CC.b .nil pass0 (pa_cons (pe_ix ix_tup (pv 1) pe_int (fun _ _ => rfl)) (pa_cons
          (pe_dget hu (pe_disp (pps_cons pe_str (pe_op op_sub pe_int (pe_op op_pow pe_int pe_int)) (pps_cons pe_str pe_int (pps_cons pe_str pe_int pps_nil))) rfl rfl (by decide) (by decide)) (pv 0) (fun _ _ => rfl)) pa_nil)))))))) pss_nil)
      (pss_cons (ps_if (pt_cmpR op_eq (pv 0) pe_str (nomark _)) (pss_one (ps_ret (pe_and (pe_cmpR op_eq (pe_callB call_len_seq (by rfl) B.len PySem.boot_len (pa_cons (pv 1) pa_nil)) pe_int (nomark _))
        (pe_and (pe_call CC.G hr1 rfl CC.m CC.k CC.b .nil pass0 (pa_cons (pe_ix ix_tup (pv 1) pe_int (fun _ _ => rfl)) (pa_cons pe_int pa_nil))) (pe_one (pe_cmpR op_lt (pe_ix ix_tup (pv 1) pe_int (fun _ _ => rfl)) pe_int (nomark _))))))) pss_nil)
      (pss_cons (ps_if (pt_cmpR op_eq (pv 0) pe_str (nomark _)) (pss_one (ps_ret (pe_and (pe_cmpR op_gt (pe_callB call_len_seq (by rfl) B.len PySem.boot_len (pa_cons (pv 1) pa_nil)) pe_int (nomark _))
        (pe_and (pe_call CN.G hr rfl CN.m CN.k CN.b .nil pass0 (pa_cons (pe_ix ix_tup (pv 1) pe_int (fun _ _ => rfl)) pa_nil))
        (pe_one (pe_call CC.G hr1 rfl CC.m CC.k CC.b .nil pass0 (pa_cons (pe_ix ix_tup (pv 1) pe_int (fun _ _ => rfl)) (pa_cons (pe_op op_sub (pe_callB call_len_seq (by rfl) B.len PySem.boot_len (pa_cons (pv 1) pa_nil)) pe_int) pa_nil)))))))) pss_nil)
      (pss_cons (ps_set (i := 2) scPlain.nd rfl (.inl rfl) (pe_dget2 hu (pe_disp (pps_cons pe_str pe_int (pps_cons pe_str pe_int (pps_cons pe_str pe_int pps_nil))) rfl rfl (by decide) (by decide)) (pv 0)
        (pe_op op_add (pe_op op_mul pe_int (pe_callTy call_int1 (by rfl) B.int (by decide +kernel) (pa_cons (pe_cmpR op_in_seq (pv 0) (pe_call0 CO.G hr1 rfl CO.m CO.k CO.b .nil pass0) (by rfl)) pa_nil)))
          (pe_op op_mul pe_int (pe_callTy call_int1 (by rfl) B.int (by decide +kernel) (pa_cons (pe_cmpR op_in_seq (pv 0) (pe_call0 CT.G hr1 rfl CT.m CT.k CT.b .nil pass0) (by rfl)) pa_nil)))) ⟨rfl, rfl, rfl, rfl⟩))
      (pss_one (ps_ret (pe_ifExp (pt_cmpR op_gt (pv 2) pe_int (nomark _)) (pe_cmpR op_eq (pe_callB call_len_seq (by rfl) B.len PySem.boot_len (pa_cons (pv 1) pa_nil)) (pv 2) (nomark _))
        (pe_or (pe_cmpR op_in_seq (pv 0) (pe_tup (pa_cons pe_str (pa_cons pe_str pa_nil))) (by rfl)) (pe_one (pe_and (pe_cmpR op_eq (pv 0) pe_str (nomark _)) (pe_one (pe_cmpR op_gt (pe_callB call_len_seq (by rfl) B.len PySem.boot_len (pa_cons (pv 1) pa_nil)) pe_int (nomark _)))))))))))), ?_⟩
    have len := ht.len
    have fq : ∀ b H', Same H H' → plainD z ds = b → Q (.bl b) H' := fun b H' s' e => by
      rw [← e]
      exact q H' s'
    refine ⟨_, rfl, (by show 6 ≤ sizeLine; decide), fun p np => ⟨p, PLl.map V.str, rfl, .inr (SqT.of upd_same), rfl, strs_flat PLl, _, rfl, ?_⟩⟩
    rw [if_neg Bool.false_ne_true, inV_strs]
    have s1 : Same H (upd H p (.tup (PLl.map V.str))) := same_new np
    change (if decide (z ∈ PLl) = true then _ else _)
    generalize hH1 : upd H p (.tup _) = H1
    have s1' : Same H H1 := by
      rw [← hH1]
      exact same_new np
    have t1 := ht.mono s1'
    refine ite2 (fun c => ?_) (fun c => ?_)
    · have hpl : z ∈ PLl := of_decide_eq_true c
      have fp : ∀ b H', Same H1 H' → oneL z ds = b → Q (.bl b) H' := fun b H' s' e => fq b H' (s1'.trans s') ((fits_pl hpl).trans e)
      refine ⟨_, rfl, a, xs, rfl, .inr t1.1, rfl, _, rfl, ?_⟩
      refine ite2 (fun c1 => ?_) (fun c1 => ?_)
      · refine fp _ H1 (Same.refl _) (one_len fun x => ?_)
        rw [len, x] at c1
        exact absurd c1 (by decide)
      · have l1 : ds.length = 1 := by
          have z : (!decide (V.int ((xs.length : Nat) : Int) = V.int 1)) = false := Bool.eq_false_iff.mpr c1
          have z2 : decide (V.int ((xs.length : Nat) : Int) = V.int 1) = true := by simpa using z
          have z3 := V.int.inj (of_decide_eq_true z2)
          omega
        match ds, l1, t1, fp with
        | [d0], _, t1, fp =>
          obtain ⟨v0, e0, h0⟩ := t1.get (i := 0) rfl
          refine ⟨_, rfl, (by show 2 ≤ sizeLine; decide), fun p2 np2 => ⟨p2, QGl.map V.str, rfl, .inr (SqT.of upd_same), rfl, strs_flat QGl, _, rfl, ?_⟩⟩
          rw [if_neg Bool.false_ne_true, inV_strs]
          generalize hH2 : upd H1 p2 (.tup _) = H2
          have s2 : Same H1 H2 := by
            rw [← hH2]
            exact same_new np2
          refine ite2 (fun c2 => ?_) (fun c2 => ?_)
          · have hq : z ∈ QGl := of_decide_eq_true c2
            obtain ⟨n1, n2, n3, n4⟩ := single_qg z hq
            refine ⟨_, rfl, a, xs, _, _, rfl, rfl, SqT_same s2 t1.1, atI_nat (j := 0) e0, v0, d0, n, rfl, h0.mono s2, hn, fun H3 s3 => fp _ H3 (s2.trans s3) ?_⟩
            show singleS z d0 = _
            unfold singleS
            rw [if_neg n1, if_neg n2, if_neg n3, if_neg n4]
          · have hq : z ∉ QGl := fun x => c2 (decide_eq_true x)
            refine ⟨_, rfl, rfl, _, rfl, str_test (fun m1 => ?_) (fun m1 => ?_)⟩
            · refine ⟨_, rfl, a, xs, _, _, rfl, rfl, SqT_same s2 t1.1, atI_nat (j := 0) e0, v0, _, _, _, _, rfl, .ty _, ty_of (h0.mono s2).1, k_bl, ?_⟩
              refine fp _ H2 s2 ?_
              show singleS z d0 = _
              unfold singleS
              rw [if_pos m1]
            · refine ⟨_, rfl, a, xs, _, _, rfl, rfl, SqT_same s2 t1.1, atI_nat (j := 0) e0, ?_⟩
              have look : ∃ l : Int, valV [((.inr "int" : Key), V.int (0 - 10 ^ 60)), (.inr "ref", .int 1), (.inr "name", .int 0)] (.inr z) = some (.int l) ∧ cntD l d0 = singleS z d0 := by
                rcases pl_cases z hpl with e | e | e | e | e
                · exact absurd e hq
                · exact absurd e m1
                · subst e
                  exact ⟨_, rfl, cnt_int h0.2⟩
                · subst e
                  exact ⟨_, rfl, by cases d0 <;> rfl⟩
                · subst e
                  exact ⟨_, rfl, by cases d0 <;> rfl⟩
              obtain ⟨l, hl, el⟩ := look
              refine fun t nt => ⟨_, _, rfl, rfl, ⟨by decide, by decide, by decide⟩, _, _, rfl, rfl, ?_⟩
              have ht0 : (upd H2 t (.dK [])) t = some (.dK []) := upd_same
              refine ⟨ht0, [((.inr "int" : Key), V.int (0 - 10 ^ 60)), (.inr "ref", .int 1), (.inr "name", .int 0)], rfl, (by decide), ?_⟩
              have hm : mergeK [] [((.inr "int" : Key), V.int (0 - 10 ^ 60)), (.inr "ref", .int 1), (.inr "name", .int 0)] = [((.inr "int" : Key), V.int (0 - 10 ^ 60)), (.inr "ref", .int 1), (.inr "name", .int 0)] := by rfl
              rw [hm]
              have s3 : Same H2 (upd (upd H2 t (.dK [])) t (.dK [((.inr "int" : Key), V.int (0 - 10 ^ 60)), (.inr "ref", .int 1), (.inr "name", .int 0)])) := fun b o e => by
                rw [upd_ne (ne_of_none e nt), upd_ne (ne_of_none e nt)]
                exact e
              refine ⟨_, rfl, t, _, rfl, ?_, v0, d0, n, l, rfl, h0.mono (s2.trans s3), fun H4 s4 => fp _ H4 (s2.trans (s3.trans s4)) el.symm⟩
              rw [← hl]
              exact DGet.k (k := .inr z) upd_same
    · have hpl : z ∉ PLl := fun x => c (decide_eq_true x)
      have fp : ∀ b H', Same H1 H' → plainD z ds = b → Q (.bl b) H' := fun b H' s' e => fq b H' (s1'.trans s') e
      refine ⟨_, rfl, rfl, _, rfl, str_test (fun m1 => ?_) (fun m1 => ?_)⟩
      · subst m1
        have e0 : plainD "fun" ds = funL ds := rfl
        rw [e0] at fp
        refine ⟨_, rfl, a, xs, rfl, .inr t1.1, rfl, _, rfl, ?_⟩
        refine ite2 (fun c1 => ?_) (fun c1 => ?_)
        · have l2 : ds.length = 2 := by
            have z3 := V.int.inj (of_decide_eq_true c1)
            omega
          match ds, l2, t1, fp with
          | [d0, d1], _, t1, fp =>
            obtain ⟨v0, e0, h0⟩ := t1.get (i := 0) rfl
            refine ⟨_, rfl, a, xs, _, _, rfl, rfl, t1.1, atI_nat (j := 0) e0, v0, d0, n, 0, rfl, h0, fun H2 s2 => ⟨_, rfl, ?_⟩⟩
            refine ite2 (fun c2 => ?_) (fun c2 => ?_)
            · cases d0 with
              | int i =>
                have hk := h0.1
                cases hk
                refine ⟨_, rfl, a, xs, _, _, rfl, rfl, SqT_same s2 t1.1, atI_nat (j := 0) e0, _, _, rfl, rfl, ?_⟩
                refine fp _ H2 s2 ?_
                have c3 : decide (0 ≤ i) = true := c2
                show (decide (0 ≤ i) && decide (i ≤ 4)) = _
                rw [c3, Bool.true_and]
                by_cases h5 : i < 5
                · rw [decide_eq_true h5, decide_eq_true (by omega)]
                · rw [decide_eq_false h5, decide_eq_false (by omega)]
              | _ => cases c2
            · refine fp _ H2 s2 ?_
              cases d0 with
              | int i =>
                have c3 : decide (0 ≤ i) = false := Bool.eq_false_iff.mpr c2
                show (decide (0 ≤ i) && decide (i ≤ 4)) = _
                rw [c3]
                rfl
              | _ => rfl
        · exact fp _ H1 (Same.refl _) (fun_len fun x => c1 (by rw [len, x]; rfl))
      · refine ⟨_, rfl, rfl, _, rfl, str_test (fun m2 => ?_) (fun m2 => ?_)⟩
        · subst m2
          have e0 : plainD "use" ds = useL ds := rfl
          rw [e0] at fp
          refine ⟨_, rfl, a, xs, rfl, .inr t1.1, _, _, rfl, rfl, _, rfl, ?_⟩
          refine ite2 (fun c1 => ?_) (fun c1 => ?_)
          · have c1' : (1 : Int) < ((xs.length : Nat) : Int) := of_decide_eq_true c1
            match ds, t1, len, fp with
            | [], _, len, _ => exact absurd c1' (by rw [len]; decide)
            | [_], _, len, _ => exact absurd c1' (by rw [len]; show ¬ (1 : Int) < ((1 : Nat) : Int); decide)
            | dw :: dr :: rest, t1, len, fp =>
              obtain ⟨vw, ew, hw⟩ := t1.get (i := 0) rfl
              obtain ⟨vr, er, hr'⟩ := t1.get (i := 1) rfl
              refine ⟨_, rfl, a, xs, _, _, rfl, rfl, t1.1, atI_nat (j := 0) ew, vw, dw, n, rfl, hw, hn, fun H2 s2 => ⟨_, rfl, ?_⟩⟩
              refine ite2 (fun c2 => ?_) (fun c2 => ?_)
              · refine ⟨_, rfl, a, xs, _, _, rfl, rfl, SqT_same s2 t1.1, atI_nat (j := 1) er, _, rfl, a, xs, rfl, .inr (SqT_same s2 t1.1), _, _, rfl, rfl, vr, dr, n, _, rfl, hr'.mono s2, fun H3 s3 => fp _ H3 (s2.trans s3) ?_⟩
                cases dr with
                | int i =>
                  show (nameD dw && (decide (0 ≤ i) && decide ((rest.length : Int) ≤ i))) = decide (((xs.length : Nat) : Int) - 2 ≤ i)
                  rw [c2, Bool.true_and, len]
                  simp only [List.length_cons]
                  by_cases h5 : (rest.length : Int) ≤ i
                  · rw [decide_eq_true h5, decide_eq_true (by omega), decide_eq_true (by omega)]
                    rfl
                  · rw [decide_eq_false h5, Bool.and_false, decide_eq_false (by omega)]
                | _ => rfl
              · refine fp _ H2 s2 ?_
                have e2 : nameD dw = false := Bool.eq_false_iff.mpr c2
                cases dr <;> simp [useL, e2]
          · refine fp _ H1 (Same.refl _) (use_short ?_)
            have c1' : ¬ (1 : Int) < ((xs.length : Nat) : Int) := fun x => c1 (decide_eq_true x)
            omega
        · -- the rest: by number
          unfold tNext
          dsimp only
          unfold tSeq
          dsimp only
          unfold tAsg
          show tMany K 0 [some (V.str z), some (V.ref a), none] H1 _
          refine many_ok (i := 0) (z := z) rfl fun H2 s2 => ?_
          have t2 := t1.mono s2
          refine ⟨_, rfl, _, _, rfl, rfl, _, rfl, ?_⟩
          rcases head_cases z hz with e | e | e | ⟨e1, e2, e3⟩ | ⟨e1, e2⟩
          · exact absurd e hpl
          · exact absurd e m1
          · exact absurd e m2
          · refine itT (decide_eq_true e2) ?_
            refine ⟨_, rfl, a, xs, rfl, .inr t2.1, _, rfl, rfl, ?_⟩
            refine fp _ H2 s2 ?_
            rw [fits_sz e1 e3, len]
            by_cases h : (ds.length : Int) = manyN z
            · rw [decide_eq_true h, decide_eq_true (by rw [h])]
            · rw [decide_eq_false h, decide_eq_false fun x => h (V.int.inj x)]
          · refine itF (by rw [e1]; rfl) ?_
            refine ⟨_, rfl, (by show 2 ≤ sizeLine; decide), fun p2 np2 => ⟨p2, MLl.map V.str, rfl, .inr (SqT.of upd_same), rfl, strs_flat MLl, _, rfl, ?_⟩⟩
            rw [if_neg Bool.false_ne_true, inV_strs]
            generalize hH3 : upd H2 p2 (.tup _) = H3
            have s3 : Same H2 H3 := by
              rw [← hH3]
              exact same_new np2
            rcases e2 with e2 | e2 | e2
            · subst e2
              exact iteT (fp _ H3 (s2.trans s3) rfl)
            · subst e2
              exact iteT (fp _ H3 (s2.trans s3) fits_list)
            · subst e2
              refine iteF ?_
              refine ⟨_, rfl, rfl, _, rfl, iteT ?_⟩
              refine ⟨_, rfl, a, xs, rfl, .inr (SqT_same s3 t2.1), _, _, rfl, rfl, ?_⟩
              refine fp _ H3 (s2.trans s3) ?_
              rw [fits_call, len]
              by_cases h : (1 : Int) ≤ (ds.length : Int)
              · rw [decide_eq_true h, decide_eq_true (by omega)]
              · rw [decide_eq_false h, decide_eq_false (by omega)]
end
end K02

set_option Elab.async false
set_option linter.all false
set_option maxRecDepth 100000
set_option maxHeartbeats 1000000
namespace K02
open PySem PySem.Spec PyProof.Rows L2
def VALl : List Str := (["int", "quote", "flag", "global", "made", "ref", "fun", "use"] : List String).map Str.ofString
theorem look_not {s : Str} : ∀ {T : List (Str × Int)}, (∀ p ∈ T, p.1 ≠ s) → T.lookup s = none
  | [], _ => rfl
  | (k, i) :: T, h => by
    have h1 : (s == k) = false := beq_eq_false_iff_ne.mpr fun e => h (k, i) List.mem_cons_self e.symm
    rw [List.lookup, h1]
    exact look_not fun p hp => h p (List.mem_cons_of_mem _ hp)
theorem fits_out {s : Str} {ds : List PyData} (h : s ∉ HEADl) : fitsD s ds = false := by
  have h1 : ∀ p ∈ SZl, p.1 ∈ HEADl := by decide +kernel
  have h2 : ∀ p ∈ LSl, p.1 ∈ HEADl := by decide +kernel
  have h3 : ∀ p ∈ SINGl, p ∈ HEADl := by decide +kernel
  have h4 : ("made" : Str) ∈ HEADl ∧ ("fun" : Str) ∈ HEADl ∧ ("use" : Str) ∈ HEADl := by decide +kernel
  unfold fitsD
  rw [look_not (s := s) (T := SZl) fun p hp (e : p.1 = s) => h (e ▸ h1 p hp)]
  dsimp only
  rw [if_neg (fun (e : s = "made") => h (e ▸ h4.1)), look_not (s := s) (T := LSl) fun p hp (e : p.1 = s) => h (e ▸ h2 p hp)]
  dsimp only
  rw [if_neg (fun (e : s = "fun") => h (e ▸ h4.2.1)), if_neg (fun (e : s = "use") => h (e ▸ h4.2.2)), decide_eq_false (fun e => h (h3 s e)), Bool.false_and]
theorem fits_plain {s : Str} {ds : List PyData} : fitsD s ds = (plainD s ds && (!(decide (s = "made")) || ds.all madeD)) := by
  unfold plainD
  by_cases e : s = "made"
  · subst e
    rw [if_pos rfl, decide_eq_true rfl]
    rfl
  · rw [if_neg e, decide_eq_false e]
    simp
theorem single_first : ∀ s ∈ SINGl, firstN s = 1 ∧ s ∈ PLl := by decide +kernel
theorem first_kids {α : Type} {s : Str} {l : List α} (h : s ∈ SINGl → l.length = 1) : ∃ k : Nat, firstN s = (k : Int) ∧ l.drop k = kidsL s l := by
  unfold kidsL
  by_cases h1 : s ∈ SINGl
  · rw [if_pos h1]
    refine ⟨1, (single_first s h1).1, ?_⟩
    have := h h1
    exact List.drop_of_length_le (by omega)
  · rw [if_neg h1]
    unfold firstN
    by_cases h2 : s = "fun"
    · exact ⟨1, by rw [if_pos h2]; rfl, by rw [if_pos h2]⟩
    · rw [if_neg h2, if_neg h2]
      by_cases h3 : s = "use"
      · exact ⟨2, by rw [if_pos h3]; rfl, by rw [if_pos h3]⟩
      · rw [if_neg h3, if_neg h3]
        refine ⟨0, ?_, rfl⟩
        by_cases h4 : s = "made"
        · rw [if_pos h4]; rfl
        · rw [if_neg h4, if_neg h1]; rfl
theorem node_three {s : Str} {ink : PyData} {ds : List PyData} : nodeD (.tuple [.str s, ink, .tuple ds]) = (inkD ink && (!(decide (s ∈ LITl) && !(emptyT ink)) && fitsD s ds)) := rfl
theorem node_no1 {h i p : PyData} (e : isStr h = false) : nodeD (.tuple [h, i, p]) = false := by
  cases h <;> first | rfl | cases e
theorem node_no3 {h i p : PyData} (e : isTup p = false) : nodeD (.tuple [h, i, p]) = false := by
  cases p <;> first | (cases h <;> rfl) | cases e
theorem node_no2 {h i p : PyData} (e : inkD i = false) : nodeD (.tuple [h, i, p]) = false := by
  cases h <;> first | rfl | (cases p <;> simp [nodeD, e])
theorem node_noT {d : PyData} (e : isTup d = false) : nodeD d = false := by
  cases d <;> first | rfl | cases e
/-- what a turn of the law's loop asks -/
def kidT (s : Str) (k : Nat) (d : PyData) : Bool := treeD k d && (!(decide (s = "made")) || madeD d)
theorem all_and {α : Type} {p q : α → Bool} (l : List α) : (l.all fun x => p x && q x) = (l.all p && l.all q) := by
  induction l with
  | nil => rfl
  | cons a l ih =>
    simp only [List.all_cons, ih]
    cases p a <;> cases q a <;> cases l.all p <;> rfl
theorem all_const {α : Type} {b : Bool} {q : α → Bool} (l : List α) : (l.all fun x => b || q x) = (b || l.all q) := by
  cases b with
  | true => simp
  | false => rfl
theorem tree_split {s : Str} {ink : PyData} {ds : List PyData} {k : Nat} (h1 : inkD ink = true) (h2 : plainD s ds = true) (h3 : (decide (s ∈ LITl) && !(emptyT ink)) = false) : treeD (k + 1) (.tuple [.str s, ink, .tuple ds]) = (kidsL s ds).all (kidT s k) := by
  show (nodeD _ && (kidsL s ds).all (treeD k)) = _
  rw [node_three, h1, h3, fits_plain, h2]
  unfold kidT
  rw [all_and, all_const]
  by_cases e : s = "made"
  · subst e
    rw [decide_eq_true rfl]
    have : kidsL ("made" : Str) ds = ds := rfl
    rw [this]
    simp [Bool.and_comm]
  · rw [decide_eq_false e]
    simp
theorem tree_no {d : PyData} {k : Nat} (h : nodeD d = false) : treeD k d = false := by
  cases k with
  | zero => rfl
  | succ k => simp [treeD, h]
theorem take14 {l : List V} (h : 14 ≤ l.length) : cutV l none (some 14) = l.take 14 := by
  unfold cutV
  rw [HT.sIx_none, show (some (14 : Int)) = some ((14 : Nat) : Int) from rfl, HT.sIx_nat, Nat.min_eq_left h]
  rfl
theorem lit_same (s : Str) : inV (.str s) (LITl.map V.str) = decide (s ∈ LITl) := inV_strs _
theorem tree_kid {k : Nat} {d : PyData} (h : treeD k d = true) : ∃ s ink ds, d = .tuple [.str s, ink, .tuple ds] := by
  cases k with
  | zero => cases h
  | succ k =>
    have z : (nodeD d && (kidsD d).all (treeD k)) = true := h
    rw [Bool.and_eq_true] at z
    exact node_split z.1
section
variable {P : Program} {w : World} {K : PySem.W.Frag} {mg : Str → Option Value} {base : Heap}
abbrev sLTree : Stmt := top 39
abbrev nLT : List Str := ["_law_thing", "_law_head", "_law_ink", "_law_items", "_law_values", "_law_kid"]
theorem scLTree : FnScope nLT ["_law_thing"] (defScope sLTree) := ⟨rfl, rfl, rfl, by decide +kernel, rfl, by decide +kernel, by decide +kernel⟩
def spLT (K : PySem.W.Frag) (n : Nat) : Sp := fun vs H Q _ => ∃ (v : V) (d : PyData) (m k : Nat), vs = [v] ∧ Dv K H m v d ∧ m < n ∧ m < k ∧ m ≤ 60 ∧ ∀ H', Same H H' → Q (.bl (treeD k d)) H'
theorem ok_ltree_step {n : Nat} {f fK fP fR fO fT fF : Addr} {fd dK dP dR dO dT dF : FuncData} (F : Fun K "_law_is_tree" "_law_is_tree" sLTree f fd) (B : BI mg) (bS : Binds K fd ["_law_thing"] []) (mS : mg "_law_is_tree" = some (.ref f))
    (CK : Cal P w K mg base "_law_is_ink" 4 fK dK ["_law_thing"] [] (spP K inkD)) (CP : Cal P w K mg base "_law_is_plain" 4 fP dP ["_law_head", "_law_items"] [] (spPlain K))
    (CR : Cal P w K mg base "_law_reserved" 2 fR dR [] [] (spStrs RESw)) (CO : Cal P w K mg base "_law_ones" 1 fO dO [] [] (spStrs ONESl)) (CT : Cal P w K mg base "_law_twos" 1 fT dT [] [] (spStrs TWOSl))
    (CF : Cal P w K mg base "_law_first" 1 fF dF ["_law_head"] [] spFirst)
    (G : FnOk P w K mg base CX0 (n + 4) f fd ["_law_thing"] (spLT K n)) : FnOk P w K mg base CX0 (n + 5) f fd ["_law_thing"] (spLT K (n + 1)) := by
  refine F.ok scLTree (fun vs H Q E h => ?_) (fun cdv A outer s H vs Q E hr h => ?_)
  · obtain ⟨v, d, m, k, rfl, _⟩ := h
    rfl
  · obtain ⟨v, d, m, k, rfl, hv, hmn, hmk, hm60, q⟩ := h
    have hr1 : Room 1 _ := hr.mono (by omega)
    have hr2 : Room 2 _ := hr.mono (by omega)
    have hr4 : Room 4 _ := hr.mono (by omega)
    have hu : (A.deeper (envOfC "_law_is_tree" (defScope sLTree) s.heap.objs.size f cdv)).units + 64 < cLine := by
      have := hr4.un
      omega
    refine ⟨_, pss_cons (ps_if (PW.pt (pw_or (pt_not (pt_val (pe_callB call_isi (by rfl) B.isi (by decide +kernel) (pa_cons (pv 0) (pa_cons (pe_bltn (v := .ty "tuple") (by rfl) B.tup (by decide +kernel) rfl) pa_nil)))))
        (pw_or1 (pt_cmpR op_ne (pe_callB call_len_seq (by rfl) B.len PySem.boot_len (pa_cons (pv 0) pa_nil)) pe_int (nomark _))))) (pss_one (ps_ret pe_bl)) pss_nil)
      (pss_cons (ps_asg (pv 0) (pg_tup rfl (pgs_cons (pg_name (i := 1) scLTree.nd rfl (.inl rfl)) (pgs_cons (pg_name (i := 2) scLTree.nd rfl (.inl rfl)) (pgs_cons (pg_name (i := 3) scLTree.nd rfl (.inl rfl)) pgs_nil)))))
      (pss_cons (ps_if (PW.pt (pw_or (pt_not (pt_val (pe_callB call_isi (by rfl) B.isi (by decide +kernel) (pa_cons (pv 1) (pa_cons (pe_bltn (v := .ty "str") (by rfl) B.str (by decide +kernel) rfl) pa_nil)))))
          (pw_or (pt_not (pt_val (pe_call CK.G hr4 rfl CK.m CK.k CK.b .nil pass0 (pa_cons (pv 2) pa_nil))))
          (pw_or1 (pt_not (pt_val (pe_callB call_isi (by rfl) B.isi (by decide +kernel) (pa_cons (pv 3) (pa_cons (pe_bltn (v := .ty "tuple") (by rfl) B.tup (by decide +kernel) rfl) pa_nil))))))))) (pss_one (ps_ret pe_bl)) pss_nil)
      (pss_cons (ps_if (PW.pt (pw_or (pt_cmpR op_notIn_seq (pv 1) (pe_op op_cat (pe_op op_cat (pe_slice sl_list (pe_call0 CR.G hr2 rfl CR.m CR.k CR.b .nil pass0) po_none (po_some pe_int)) (pe_call0 CO.G hr1 rfl CO.m CO.k CO.b .nil pass0)) (pe_call0 CT.G hr1 rfl CT.m CT.k CT.b .nil pass0)) (by rfl))
          (pw_or1 (pt_not (pt_val (pe_call CP.G hr4 rfl CP.m CP.k CP.b .nil pass0 (pa_cons (pv 1) (pa_cons (pv 3) pa_nil)))))))) (pss_one (ps_ret pe_bl)) pss_nil)
      (pss_cons (ps_if (PW.pt (pw_and (pt_cmpR op_in_seq (pv 1) (pe_tup (pa_cons pe_str (pa_cons pe_str (pa_cons pe_str (pa_cons pe_str (pa_cons pe_str (pa_cons pe_str pa_nil))))))) (by rfl)) (pw_and1 (pt_cmpR (op_neD hu) (pv 2) (pe_tup pa_nil) (nomark _))))) (pss_one (ps_ret pe_bl)) pss_nil)
      (pss_cons (ps_set (i := 4) scLTree.nd rfl (.inl rfl) (pe_tup (pa_cons pe_str (pa_cons pe_str (pa_cons pe_str (pa_cons pe_str (pa_cons pe_str (pa_cons pe_str (pa_cons pe_str (pa_cons pe_str pa_nil))))))))))
      (pss_cons (ps_for PassesOwn.never rfl (pi_tup (pe_slice sl_tupA (pv 3) (po_some (pe_call CF.G hr1 rfl CF.m CF.k CF.b .nil pass0 (pa_cons (pv 1) pa_nil))) po_none)) (pg_name (i := 5) scLTree.nd rfl (.inl rfl))
        (pss_one (ps_if (PW.pt (pw_or (pt_not (pt_val (pe_call G hr rfl mS F.kp bS .nil pass0 (pa_cons (pv 5) pa_nil))))
          (pw_or1 (PW.pt (pw_and (pt_cmpR op_eq (pv 1) pe_str (nomark _)) (pw_and1 (pt_cmpR op_notIn_seq (pe_ix ix_tup (pv 5) pe_int (fun _ _ => rfl)) (pv 4) (by rfl)))))))) (pss_one (ps_ret pe_bl)) pss_nil)))
      (pss_one (ps_ret pe_bl)))))))), ?_⟩
    have no : ∀ H', Same H H' → nodeD d = false → Q (.bl false) H' := fun H' s' e => by
      have z := q H' s'
      rw [tree_no e] at z
      exact z
    refine ⟨_, rfl, v, _, _, _, _, rfl, .ty _, ty_of hv.1, k_tup, _, rfl, ?_⟩
    cases d with
    | tuple ds =>
      obtain ⟨a, xs, m1, rfl, rfl, ht⟩ := hv.tup
      have len := ht.len
      refine iteF ?_
      refine ⟨_, rfl, a, xs, rfl, .inr ht.1, rfl, _, rfl, ?_⟩
      refine ite2 (fun c => ?_) (fun c => ?_)
      · refine no H (Same.refl _) (node_len fun z => ?_)
        rw [len, z] at c
        exact absurd c (by decide)
      · have l3 : ds.length = 3 := by
          have z : (!decide (V.int ((xs.length : Nat) : Int) = V.int 3)) = false := Bool.eq_false_iff.mpr c
          have z2 : decide (V.int ((xs.length : Nat) : Int) = V.int 3) = true := by simpa using z
          have z3 := V.int.inj (of_decide_eq_true z2)
          omega
        obtain ⟨hs, hd, _, hm⟩ := ht
        match ds, l3, hd, hm, no, q with
        | [dh, di, dp], _, hd, hm, no, q =>
          cases hd with
          | @cons vh vs1 _ _ eh hd => cases hd with
            | @cons vi vs2 _ _ ei hd => cases hd with
              | @cons vp vs3 _ _ ep hd =>
                cases hd
                refine ⟨_, rfl, a, _, rfl, hs, rfl, _, _, rfl, _, _, rfl, _, _, rfl, rfl, ?_⟩
                have oi := hm di (by simp)
                have op := hm dp (by simp)
                refine ⟨_, rfl, vh, _, _, _, _, rfl, .ty _, ty_of eh, k_str, _, rfl, ?_⟩
                refine ite2 (fun c1 => ?_) (fun c1 => ?_)
                · exact no H (Same.refl _) (node_no1 (by simpa using c1))
                · cases dh with
                  | str z =>
                    cases eh
                    refine ⟨_, rfl, vi, di, _, rfl, ⟨ei, oi⟩, by omega, fun H1 s1 => ⟨_, rfl, ?_⟩⟩
                    refine ite2 (fun c2 => ?_) (fun c2 => ?_)
                    · exact no H1 s1 (node_no2 (by simpa using c2))
                    · have e2 : inkD di = true := by simpa using c2
                      refine ⟨_, rfl, vp, _, _, _, _, rfl, .ty _, ty_of (dp_mono s1 _ _ ep), k_tup, _, rfl, ?_⟩
                      refine ite2 (fun c3 => ?_) (fun c3 => ?_)
                      · exact no H1 s1 (node_no3 (by simpa using c3))
                      · cases dp with
                        | tuple ps =>
                          have hp : Dv K H m1 vp (.tuple ps) := ⟨ep, op⟩
                          obtain ⟨b, ys, m2, rfl, rfl, hty⟩ := hp.tup
                          refine ⟨_, rfl, rfl, fun pR HR sR hR _ => ?_⟩
                          refine ⟨14, rfl, pR, _, rfl, SqL.of hR, fun p1 n1 => ?_⟩
                          rw [take14 (by decide)]
                          have eT : (RESw.map V.str).take 14 = (RES1.take 14).map V.str := by rfl
                          rw [eT]
                          have sA1 := same_new (o := .lst ((RES1.take 14).map V.str)) n1
                          have hA1 : (upd HR p1 (.lst ((RES1.take 14).map V.str))) p1 = some (.lst ((RES1.take 14).map V.str)) := upd_same
                          generalize upd HR p1 (.lst ((RES1.take 14).map V.str)) = HA1 at sA1 hA1 ⊢
                          refine ⟨rfl, fun pO HO sO hO _ => ⟨p1, pO, _, _, rfl, rfl, sO _ _ hA1, hO, (by decide +kernel), fun p2 n2 => ?_⟩⟩
                          rw [← List.map_append]
                          have sA2 := same_new (o := .lst ((RES1.take 14 ++ ONESl).map V.str)) n2
                          have hA2 : (upd HO p2 (.lst ((RES1.take 14 ++ ONESl).map V.str))) p2 = some (.lst ((RES1.take 14 ++ ONESl).map V.str)) := upd_same
                          generalize upd HO p2 (.lst ((RES1.take 14 ++ ONESl).map V.str)) = HA2 at sA2 hA2 ⊢
                          refine ⟨rfl, fun pT HT sT hT _ => ⟨p2, pT, _, _, rfl, rfl, sT _ _ hA2, hT, (by decide +kernel), fun p3 n3 => ?_⟩⟩
                          rw [← List.map_append]
                          refine ⟨p3, HEADl.map V.str, rfl, .inl (SqL.of upd_same), rfl, strs_flat _, _, rfl, ?_⟩
                          rw [if_pos rfl, inV_strs]
                          have sA3 : Same HT (upd HT p3 (.lst ((RES1.take 14 ++ ONESl ++ TWOSl).map V.str))) := same_new n3
                          generalize upd HT p3 (.lst ((RES1.take 14 ++ ONESl ++ TWOSl).map V.str)) = H2 at sA3 ⊢
                          have s2 : Same H H2 := s1.trans (sR.trans (sA1.trans (sO.trans (sA2.trans (sT.trans sA3)))))
                          refine ite2 (fun c4 => ?_) (fun c4 => ?_)
                          · have hz : z ∉ HEADl := by simpa using c4
                            refine no H2 s2 ?_
                            rw [node_three, fits_out hz, Bool.and_false, Bool.and_false]
                          · have hz : z ∈ HEADl := by simpa using c4
                            refine ⟨_, rfl, _, rfl, z, b, ys, ps, m2, rfl, hz, hty.mono s2, by omega, fun H3 s3 => ⟨_, rfl, ?_⟩⟩
                            refine ite2 (fun c5 => ?_) (fun c5 => ?_)
                            · have e5 : plainD z ps = false := by simpa using c5
                              refine no H3 (s2.trans s3) ?_
                              rw [node_three, fits_plain, e5, Bool.false_and, Bool.and_false, Bool.and_false]
                            · have e5 : plainD z ps = true := by simpa using c5
                              have s3' := s2.trans s3
                              refine ⟨_, rfl, (by show 6 ≤ sizeLine; decide), fun p4 n4 => ⟨p4, LITl.map V.str, rfl, .inr (SqT.of upd_same), rfl, strs_flat _, _, rfl, ?_⟩⟩
                              rw [if_neg Bool.false_ne_true, inV_strs]
                              have s4 : Same H3 (upd H3 p4 (.tup (LITl.map V.str))) := same_new n4
                              generalize hH4 : upd H3 p4 (.tup _) = H4
                              have s4' : Same H H4 := by
                                rw [← hH4]
                                exact s3'.trans (same_new n4)
                              -- the loop
                              obtain ⟨k', rfl⟩ : ∃ k', k = k' + 1 := ⟨k - 1, by omega⟩
                              have lit : ∀ H5, Same H H5 → (decide (z ∈ LITl) && !(emptyT di)) = true → Q (.bl false) H5 := fun H5 s5 e => no H5 s5 (by rw [node_three, e]; simp)
                              have loop : ∀ H5, Same H H5 → (decide (z ∈ LITl) && !(emptyT di)) = false →
                                  tSeq (tAsg (tTup (tCons (tC (V.str "int")) (tCons (tC (V.str "quote")) (tCons (tC (V.str "flag")) (tCons (tC (V.str "global")) (tCons (tC (V.str "made")) (tCons (tC (V.str "ref")) (tCons (tC (V.str "fun")) (tCons (tC (V.str "use")) tNil))))))))) (gName 4))
                                    (tSeq (tFor (iTup K (tSl (rSlA K) (tVar 3) (tPart (tCall spFirst [] E0 (tCons (tVar 1) tNil))) tNoPart)) (gName 5)
                                      (tIfS (tOr (tNot (tB (tCall (spLT K n) [] E0 (tCons (tVar 5) tNil)))) (tAnd (tTest (tOp rEq (tVar 1) (tC (V.str "made")))) (tTest (tOp (rIn K true) (tOp (rIxT K) (tVar 5) (tC (V.int 0))) (tVar 4))))) (tRet (tC (V.bl false))) tNext)) (tRet (tC (V.bl true)))) { nx := fun _ H' => Q V.non H', rt := Q } [some (.ref a), some (.str z), some vi, some (.ref b), none, none] H5 := by
                                intro H5 s5 el
                                have tq : ∀ (bb : Bool) H', Same H H' → (kidsL z ps).all (kidT z k') = bb → Q (.bl bb) H' := fun bb H' s' e => by
                                  have z1 := q H' s'
                                  rw [tree_split e2 e5 el, e] at z1
                                  exact z1
                                refine ⟨(by show 8 ≤ sizeLine; decide), fun tv nv => ?_⟩
                                have s6 : Same H5 (upd H5 tv (.tup (MADEl.map V.str))) := same_new nv
                                have h6 : (upd H5 tv (.tup (MADEl.map V.str))) tv = some (.tup (MADEl.map V.str)) := upd_same
                                change tSeq _ _ _ _ (upd H5 tv (.tup (MADEl.map V.str)))
                                generalize upd H5 tv (.tup (MADEl.map V.str)) = H6 at s6 h6 ⊢
                                have hty6 := hty.mono (s5.trans s6)
                                have one : z ∈ SINGl → ys.length = 1 := fun hz1 => by
                                  rw [hty.len]
                                  have e6 : oneL z ps = true := by rw [← fits_pl (single_first z hz1).2]; exact e5
                                  match ps, e6 with
                                  | [_], _ => rfl
                                  | [], e6 => cases e6
                                  | _ :: _ :: _, e6 => cases e6
                                obtain ⟨kk, ek, dk⟩ := first_kids one
                                refine ⟨_, rfl, _, rfl, z, rfl, fun H7 s7 => ⟨_, rfl, ?_⟩⟩
                                rw [ek]
                                dsimp only
                                unfold tNoPart
                                refine slice_ok (k := kk) (hty6.mono s7).1 fun tk H8 s8 hk => ⟨tk, rfl, ⟨_, hk⟩, ?_⟩
                                rw [dk] at hk
                                have s58 : Same H H8 := s5.trans (s6.trans (s7.trans s8))
                                have hkd : DpAll K H (kidsL z ys) (kidsL z ps) := dpa_kids hty.2.1
                                refine for_tup (K := K) (a := tk) (xs := kidsL z ys) (D := { nx := tRet (tC (V.bl true)) { nx := fun _ H' => Q V.non H', rt := Q }, rt := Q }) (g := gName 5) (fun i σ H9 => Same H H9 ∧ Same H8 H9 ∧ (∃ o, σ = [some (.ref a), some (.str z), some vi, some (.ref b), some (.ref tv), o]) ∧ ((kidsL z ps).take i).all (kidT z k') = true)
                                  ⟨s58, Same.refl _, ⟨none, rfl⟩, rfl⟩ (fun i σ H9 _ p => SqT_same p.2.1 hk) ?_ ?_
                                · rintro i u σ H9 hu9 ⟨s9, s89, ⟨o, rfl⟩, ha⟩
                                  obtain ⟨du, eu, hdu⟩ := dpa_get hkd hu9
                                  have okk : okD m2 du := hty.2.2.2 du (kidsL_sub (List.mem_of_getElem? eu))
                                  have bad : ∀ H', Same H9 H' → kidT z k' du = false → Q (.bl false) H' := fun H' s' e => tq _ H' (s9.trans s') (all_bad eu e)
                                  refine ⟨_, rfl, u, du, m2, k', rfl, ⟨dp_mono s9 du u hdu, okk⟩, by omega, by omega, by omega, fun H10 s10 => ⟨_, rfl, ?_⟩⟩
                                  refine ite2 (fun c7 => ?_) (fun c7 => ?_)
                                  · have e7 : treeD k' du = false := by simpa using c7
                                    exact bad H10 s10 (by unfold kidT; rw [e7, Bool.false_and])
                                  · have e7 : treeD k' du = true := by simpa using c7
                                    refine ⟨_, rfl, rfl, _, rfl, str_test (fun mz => ?_) (fun mz => ?_)⟩
                                    · obtain ⟨z2, i2, p2', e8⟩ := tree_kid e7
                                      subst e8
                                      have hu2 : Dv K H10 m2 u _ := ⟨dp_mono (s9.trans s10) _ u hdu, okk⟩
                                      obtain ⟨a2, xs2, m3, e9, rfl, ht2⟩ := hu2.tup
                                      obtain ⟨v0, e0, h0⟩ := ht2.get (i := 0) rfl
                                      have h0' := h0.1
                                      cases h0'
                                      refine ⟨_, rfl, a2, xs2, _, _, rfl, rfl, ht2.1, atI_nat (j := 0) e0, _, rfl, tv, MADEl.map V.str, rfl, .inr (SqT.of (s10 _ _ (s89 _ _ (s8 _ _ (s7 _ _ h6))))), rfl, strs_flat _, _, rfl, ?_⟩
                                      rw [if_pos rfl, inV_strs]
                                      refine ite2 (fun c8 => ?_) (fun c8 => ?_)
                                      · have e10 : decide (z2 ∈ MADEl) = false := by simpa using c8
                                        refine bad H10 s10 ?_
                                        unfold kidT
                                        rw [decide_eq_true mz]
                                        show (_ && (false || decide (z2 ∈ MADEl))) = false
                                        rw [e10, Bool.or_false, Bool.and_false]
                                      · have e10 : decide (z2 ∈ MADEl) = true := by simpa using c8
                                        refine ⟨s9.trans s10, s89.trans s10, ⟨_, rfl⟩, all_take eu ha ?_⟩
                                        unfold kidT
                                        rw [e7, decide_eq_true mz]
                                        show (true && (false || decide (z2 ∈ MADEl))) = true
                                        rw [e10]
                                        rfl
                                    · refine ⟨s9.trans s10, s89.trans s10, ⟨_, rfl⟩, all_take eu ha ?_⟩
                                      unfold kidT
                                      rw [e7, decide_eq_false mz]
                                      rfl
                                · rintro σ H9 ⟨s9, s89, _, ha⟩
                                  rw [take_full (dpa_len hkd)] at ha
                                  exact tq true H9 s9 ha
                              refine ite2 (fun c6 => ?_) (fun c6 => ?_)
                              · refine ⟨_, rfl, Nat.zero_le _, fun p5 n5 => ?_⟩
                                have s5 : Same H4 (upd H4 p5 (.tup [])) := same_new n5
                                refine ⟨di, .tuple [], dp_mono (s4'.trans s5) di vi ei, .tup (SqT.of upd_same) .nil, oi.shaped (by omega), nil_shaped, ?_⟩
                                rw [empty_eqv]
                                refine ⟨_, rfl, ?_⟩
                                refine ite2 (fun c7 => ?_) (fun c7 => ?_)
                                · exact lit _ (s4'.trans s5) (by rw [c6, c7]; rfl)
                                · exact loop _ (s4'.trans s5) (by rw [c6, Bool.eq_false_iff.mpr c7]; rfl)
                              · exact loop H4 s4' (by rw [Bool.eq_false_iff.mpr c6]; rfl)
                        | _ => exact absurd rfl c3
                  | _ => exact absurd rfl c1
    | _ => exact iteT (no H (Same.refl _) (node_noT rfl))
theorem ltree_none {f : Addr} {fd : FuncData} : FnOk P w K mg base CX0 4 f fd ["_law_thing"] (spLT K 0) := by
  have no : ∀ vs H Q E, ¬ spLT K 0 vs H Q E := fun vs H Q E h => by
    obtain ⟨v, d, m, k, _, _, h1, _⟩ := h
    omega
  exact ⟨fun vs H Q E h => absurd h (no vs H Q E), fun A outer s H args us vs Q E _ _ _ _ h => absurd h (no vs H Q E)⟩
theorem ok_ltree {f fK fP fR fO fT fF : Addr} {fd dK dP dR dO dT dF : FuncData} (F : Fun K "_law_is_tree" "_law_is_tree" sLTree f fd) (B : BI mg) (bS : Binds K fd ["_law_thing"] []) (mS : mg "_law_is_tree" = some (.ref f))
    (CK : Cal P w K mg base "_law_is_ink" 4 fK dK ["_law_thing"] [] (spP K inkD)) (CP : Cal P w K mg base "_law_is_plain" 4 fP dP ["_law_head", "_law_items"] [] (spPlain K))
    (CR : Cal P w K mg base "_law_reserved" 2 fR dR [] [] (spStrs RESw)) (CO : Cal P w K mg base "_law_ones" 1 fO dO [] [] (spStrs ONESl)) (CT : Cal P w K mg base "_law_twos" 1 fT dT [] [] (spStrs TWOSl))
    (CF : Cal P w K mg base "_law_first" 1 fF dF ["_law_head"] [] spFirst) : ∀ n : Nat, FnOk P w K mg base CX0 (n + 4) f fd ["_law_thing"] (spLT K n)
  | 0 => ltree_none
  | n + 1 => ok_ltree_step F B bS mS CK CP CR CO CT CF (ok_ltree F B bS mS CK CP CR CO CT CF n)
end
end K02

set_option Elab.async false
set_option linter.all false
set_option maxRecDepth 100000
set_option maxHeartbeats 1000000
namespace K02
open PySem PySem.Spec PyProof.Rows L2
/-! ### drawn data -/
def Dt (N : Addr → Prop) (L : Nat) (H : Hp) : Nat → V → Prop
  | 0, v => leafV v = true
  | n + 1, v => leafV v = true ∨ ∃ a xs, v = .ref a ∧ N a ∧ (H a = some (.tup xs) ∨ H a = some (.lst xs)) ∧ xs.length ≤ L ∧ ∀ x ∈ xs, Dt N L H n x
abbrev Nw (H : Hp) : Addr → Prop := fun a => H a = none
theorem Dt.leaf {N : Addr → Prop} {L : Nat} {H : Hp} : ∀ {n : Nat} {v : V}, leafV v = true → Dt N L H n v
  | 0, _, h => h
  | _ + 1, _, h => .inl h
theorem Dt.mono {N N' : Addr → Prop} {L L' : Nat} {H H' : Hp} (hL : L ≤ L') (hN : ∀ a, N a → N' a) (s : ∀ a o, N a → H a = some o → H' a = some o) : ∀ {n : Nat} {v : V}, Dt N L H n v → Dt N' L' H' n v
  | 0, _, h => h
  | n + 1, v, h => by
    rcases h with h | ⟨a, xs, e, ne, h, l, q⟩
    · exact .inl h
    · refine .inr ⟨a, xs, e, hN a ne, ?_, Nat.le_trans l hL, fun x hx => Dt.mono hL hN s (q x hx)⟩
      rcases h with h | h
      · exact .inl (s _ _ ne h)
      · exact .inr (s _ _ ne h)
theorem Dt.up {N : Addr → Prop} {L : Nat} {H : Hp} : ∀ {n : Nat} {v : V}, Dt N L H n v → Dt N L H (n + 1) v
  | 0, _, h => .inl h
  | n + 1, v, h => by
    rcases h with h | ⟨a, xs, e, ne, h, l, q⟩
    · exact .inl h
    · exact .inr ⟨a, xs, e, ne, h, l, fun x hx => (q x hx).up⟩
theorem Dt.le {N : Addr → Prop} {L : Nat} {H : Hp} {n m : Nat} (h : n ≤ m) {v : V} (k : Dt N L H n v) : Dt N L H m v := by
  induction m with
  | zero =>
    have e : n = 0 := by omega
    subst e
    exact k
  | succ m ih =>
    by_cases e : n = m + 1
    · subst e
      exact k
    · exact (ih (by omega)).up
theorem Dn.dt {N : Addr → Prop} {L : Nat} {H : Hp} (hL : 3 ≤ L) : ∀ {n : Nat} {v : V}, Dn N H n v → Dt N L H n v
  | 0, _, h => h
  | n + 1, v, h => by
    rcases h with h | ⟨a, xs, e, ne, h, l, q⟩
    · exact .inl h
    · exact .inr ⟨a, xs, e, ne, h, Nat.le_trans l hL, fun x hx => (q x hx).dt hL⟩
theorem Dt.tup {N : Addr → Prop} {L : Nat} {H : Hp} {n : Nat} {t : Addr} {xs : List V} (nt : N t) (e : H t = some (.tup xs)) (l : xs.length ≤ L) (q : ∀ x ∈ xs, Dt N L H n x) : Dt N L H (n + 1) (.ref t) :=
  .inr ⟨t, xs, rfl, nt, .inl e, l, q⟩
theorem leaf_data {K : PySem.W.Frag} {H : Hp} {v : V} (h : leafV v = true) : ∃ d, Dp K H v d ∧ leafD d = true := by
  cases v with
  | non => exact ⟨.none, .non, rfl⟩
  | bl b => exact ⟨.bool b, .bl b, rfl⟩
  | int i => exact ⟨.int i, .int i, h⟩
  | str x => exact ⟨.str x, .str x, h⟩
  | _ => cases h
theorem all_data {K : PySem.W.Frag} {H : Hp} {n : Nat} : ∀ {xs : List V}, (∀ x ∈ xs, ∃ d, Dv K H n x d) → ∃ ds, DpAll K H xs ds ∧ ds.length = xs.length ∧ ∀ d ∈ ds, okD n d
  | [], _ => ⟨[], .nil, rfl, fun d hd => by cases hd⟩
  | x :: xs, h => by
    obtain ⟨d, h1, h2⟩ := h x List.mem_cons_self
    obtain ⟨ds, h3, h4, h5⟩ := all_data fun y hy => h y (List.mem_cons_of_mem _ hy)
    refine ⟨d :: ds, .cons h1 h3, by simp [h4], fun e he => ?_⟩
    rcases List.mem_cons.mp he with he | he
    · rw [he]
      exact h2
    · exact h5 e he
theorem Dt.data {K : PySem.W.Frag} {N : Addr → Prop} {L : Nat} {H : Hp} (hL : L ≤ 100) : ∀ {n : Nat} {v : V}, Dt N L H n v → ∃ d, Dv K H n v d
  | 0, v, h => leaf_data h
  | n + 1, v, h => by
    rcases h with h | ⟨a, xs, rfl, ne, h, l, q⟩
    · obtain ⟨d, h1, h2⟩ := leaf_data (K := K) (H := H) h
      exact ⟨d, h1, okD.leaf h2⟩
    · obtain ⟨ds, h1, h2, h3⟩ := all_data (K := K) fun x hx => (q x hx).data hL
      rcases h with h | h
      · exact ⟨.tuple ds, .tup (SqT.of h) h1, .inr ⟨ds, .inl rfl, by omega, h3⟩⟩
      · exact ⟨.list ds, .lst (SqL.of h) h1, .inr ⟨ds, .inr rfl, by omega, h3⟩⟩
/-- a kind of thing that is drawn: it stays as long as its places do -/
structure Mo (P : (Addr → Prop) → Hp → V → Prop) : Prop where
  mono : ∀ {N N' : Addr → Prop} {H H' : Hp} {v : V}, (∀ a, N a → N' a) → (∀ a o, N a → H a = some o → H' a = some o) → P N H v → P N' H' v
theorem Mo.step {P : (Addr → Prop) → Hp → V → Prop} (M : Mo P) {f : Addr} {H0 H1 H2 : Hp} {u : HO} {v : V} (hf : H0 f = some u) (b : But f H1 H2) (h : P (Nw H0) H1 v) : P (Nw H0) H2 v :=
  M.mono (fun _ z => z) (fun a o z e => b a o (fun x => by rw [x] at z; rw [show H0 f = none from z] at hf; cases hf) e) h
theorem Mo.base {P : (Addr → Prop) → Hp → V → Prop} (M : Mo P) {f : Addr} {H0 H1 H2 : Hp} {u : HO} {v : V} (b : But f H0 H1) (hf : H1 f = some u) (h : P (Nw H1) H2 v) : P (Nw H0) H2 v :=
  M.mono (fun a z => b.none hf z) (fun _ _ _ e => e) h
theorem mo_dt {L n : Nat} : Mo fun N H v => Dt N L H n v := ⟨fun hN s h => h.mono (Nat.le_refl _) hN s⟩
/-- a node that was drawn -/
def TN (n : Nat) (N : Addr → Prop) (H : Hp) (v : V) : Prop := Dt N 6 H n v ∧ ∃ a s vi vk, v = .ref a ∧ N a ∧ H a = some (.tup [.str s, vi, vk])
theorem mo_tn {n : Nat} : Mo (TN n) := ⟨fun hN s h => ⟨h.1.mono (Nat.le_refl _) hN s, by
  obtain ⟨a, z, vi, vk, e, na, ha⟩ := h.2
  exact ⟨a, z, vi, vk, e, hN a na, s _ _ na ha⟩⟩⟩
theorem TN.le {n m : Nat} (h : n ≤ m) {N : Addr → Prop} {H : Hp} {v : V} (k : TN n N H v) : TN m N H v := ⟨k.1.le h, k.2⟩
theorem TN.mk {n : Nat} {N : Addr → Prop} {H : Hp} {t : Addr} {s : Str} {vi vk : V} (nt : N t) (e : H t = some (.tup [.str s, vi, vk])) (hs : leafV (.str s) = true) (hi : Dt N 6 H n vi) (hk : Dt N 6 H n vk) : TN (n + 1) N H (.ref t) := by
  refine ⟨.tup nt e (by show 3 ≤ 6; decide) fun x hx => ?_, t, s, vi, vk, rfl, nt, e⟩
  simp only [List.mem_cons, List.not_mem_nil, or_false] at hx
  rcases hx with rfl | rfl | rfl
  · exact .leaf hs
  · exact hi
  · exact hk
abbrev Fd (H : Hp) (f : Addr) : Prop := ∃ g m : Int, H f = some (.lst [.int g, .int m])
theorem but_alloc {f p : Addr} {H0 H : Hp} {o : HO} (b : But f H0 H) (np : H p = none) : But f H0 (upd H p o) := b.trans (.of (same_new np))
theorem Fd.alloc {f p : Addr} {H : Hp} {o : HO} (b : Fd H f) (np : H p = none) : Fd (upd H p o) f := by
  obtain ⟨g, m, e⟩ := b
  exact ⟨g, m, same_new np _ _ e⟩
/-- [e for _ in range(n)], each e a drawn thing -/
theorem gen_comp {T : (Addr → Prop) → Hp → V → Prop} (M : Mo T) {f : Addr} {H : Hp} {Q : VK} {σ : L2.St} {j len : Nat} {tr te : TE} (hf : Fd H f) (hlen : len ≤ 4)
    (hr : ∀ Q' : VK, (∀ (kn : Nat) (H1 : Hp), kn ≤ len → But f H H1 → Fd H1 f → Q' (.int kn) H1) → tr σ H Q')
    (he : ∀ (v : V) (H2 : Hp) (Q' : VK), Fd H2 f → (∀ (x : V) (H3 : Hp), But f H2 H3 → Fd H3 f → T (Nw H2) H3 x → Q' x H3) → te ((wipe σ [j]).set j (some v)) H2 Q')
    (hw : ∀ v, wipe ((wipe σ [j]).set j (some v)) [j] = wipe σ [j])
    (q : ∀ (D : Addr) (acc : List V) (H' : Hp), But f H H' → Fd H' f → H D = none → D ≠ f → H' D = some (.lst acc) → acc.length ≤ len → (∀ x ∈ acc, T (fun a => H a = none ∧ a ≠ D) H' x) → Q (.ref D) H') :
    tLc (iRng1 (tCons tr tNil)) (gName j) tYes te [j] σ H Q := by
  obtain ⟨g, m, hf⟩ := hf
  refine hr _ fun kn H1 hk b1 hf1 => ?_
  obtain ⟨g1, m1, hf1⟩ := hf1
  refine ⟨_, rfl, by omega, by omega, fun D hD => ?_⟩
  have hDf : D ≠ f := fun e => by rw [e, hf1] at hD; cases hD
  have hfN : ∀ a, H a = none → a ≠ f := fun a z e => by rw [e, hf] at z; cases z
  refine lc_range (lo := 0) (n := ((kn : Int)).toNat) (fun i H2 => ∃ (acc : List V), H2 D = some (.lst acc) ∧ acc.length = i ∧ Fd H2 f ∧ (∀ b o, b ≠ f → H1 b = some o → H2 b = some o) ∧ ∀ x ∈ acc, T (fun a => H a = none ∧ a ≠ D) H2 x)
    ⟨[], upd_same, rfl, ⟨g1, m1, by rw [upd_ne hDf.symm]; exact hf1⟩, fun b o hb e => by rw [upd_ne (ne_of_none e hD)]; exact e, fun x hx => by cases hx⟩ ?_ ?_
  · rintro i H2 hi ⟨acc, eD, la, hf2, b2, ha⟩
    refine ⟨hw _, ?_⟩
    dsimp only [tYes]
    refine iteT ?_
    refine he _ H2 _ hf2 fun v H3 b3 hf3 dv => ?_
    obtain ⟨g2, m2, hf2⟩ := hf2
    have eD3 : H3 D = some (.lst acc) := b3 _ _ hDf eD
    have old : ∀ x ∈ acc, T (fun a => H a = none ∧ a ≠ D) H3 x := fun x hx => M.mono (fun _ z => z) (fun a o z e => b3 a o (hfN a z.1) e) (ha x hx)
    have dv' : T (fun a => H a = none ∧ a ≠ D) H3 v := M.mono (fun a z => ⟨b1.none hf1 (But.none (f := f) (H' := H2) b2 hf2 z), fun e => by rw [e] at z; rw [show H2 D = none from z] at eD; cases eD⟩) (fun _ _ _ e => e) dv
    obtain ⟨g3, m3, hf3⟩ := hf3
    refine ⟨acc, eD3, small1000 (by omega), acc ++ [v], upd_same, by rw [List.length_append, la]; rfl, ⟨g3, m3, by rw [upd_ne hDf.symm]; exact hf3⟩, fun b o hb e => ?_, fun x hx => ?_⟩
    · rw [upd_ne (ne_of_none e hD)]
      exact b3 _ _ hb (b2 _ _ hb e)
    · have fin : ∀ y, T (fun a => H a = none ∧ a ≠ D) H3 y → T (fun a => H a = none ∧ a ≠ D) (upd H3 D (.lst (acc ++ [v]))) y := fun y z => M.mono (fun _ z => z) (fun a o z e => by rw [upd_ne z.2]; exact e) z
      rcases List.mem_append.mp hx with hx | hx
      · exact fin x (old x hx)
      · rw [List.mem_singleton] at hx
        rw [hx]
        exact fin v dv'
  · rintro H2 ⟨acc, eD, la, hf2, b2, ha⟩
    exact q D acc H2 (b1.trans b2) hf2 (b1.none hf1 hD) hDf eD (by omega) ha
section
variable {P : Program} {w : World} {K : PySem.W.Frag} {mg : Str → Option Value} {base : Heap}
/-- a draw, by the feed -/
theorem draw_ok {σ : L2.St} {H : Hp} {Q : VK} {f : Addr} {many : Int} (h0 : σ[0]? = some (some (.ref f))) (hf : Fd H f) (h1 : 0 < many) (h2 : many < 1073741824)
    (q : ∀ (d : Nat) (H' : Hp), (d : Int) < many → But f H H' → Fd H' f → Q (.int d) H') : tCall spDraw [] E0 (tCons (tVar 0) (tCons (tC (V.int many)) tNil)) σ H Q := by
  obtain ⟨g, m, hf⟩ := hf
  refine ⟨_, h0, f, g, m, many, rfl, hf, h1, h2, fun d g1 m1 d0 d1 => ?_⟩
  obtain ⟨dn, rfl⟩ : ∃ dn : Nat, d = (dn : Int) := ⟨d.toNat, by omega⟩
  exact q dn _ d1 But.upd ⟨g1, m1, upd_same⟩
theorem pick_ok {H : Hp} {Q : VK} {f a : Addr} {xs : List V} (hf : Fd H f) (ha : H a = some (.lst xs)) (ne : a ≠ f) (h0 : 0 < xs.length) (h1 : xs.length ≤ 1000) (q : ∀ (x : V) (H' : Hp), x ∈ xs → But f H H' → Fd H' f → Q x H') (E : XK) : spPick [.ref f, .ref a] H Q E := by
  obtain ⟨g, m, hf⟩ := hf
  exact ⟨f, a, g, m, xs, rfl, hf, ha, ne, h0, h1, fun x g1 m1 hx => q x _ hx But.upd ⟨g1, m1, upd_same⟩⟩
end
end K02

set_option Elab.async false
set_option linter.all false
set_option maxRecDepth 100000
set_option maxHeartbeats 1000000
namespace K02
open PySem PySem.Spec PyProof.Rows L2
theorem leaf_nat (d : Nat) : leafV (.int (d : Int)) = true := by
  show decide (-(10 ^ 60) ≤ (d : Int)) = true
  exact decide_eq_true (by
    have : (0 : Int) ≤ 10 ^ 60 := by decide
    omega)
theorem leaf_ge {i : Int} (h : -100 ≤ i) : leafV (.int i) = true := by
  show decide (-(10 ^ 60) ≤ i) = true
  exact decide_eq_true (by
    have : (100 : Int) ≤ 10 ^ 60 := by decide
    omega)
theorem alloc_at {f p : Addr} {H0 H G : Hp} {o : HO} (hG : upd H p o = G) (np : H p = none) (b : But f H0 H) (hf : Fd H f) : But f H0 G ∧ Fd G f ∧ But f H G ∧ G p = some o ∧ p ≠ f ∧ H0 p = none := by
  subst hG
  obtain ⟨g, m, e⟩ := hf
  exact ⟨but_alloc b np, ⟨g, m, same_new np _ _ e⟩, .of (same_new np), upd_same, (fun x => by rw [x, e] at np; cases np), b.none e np⟩
theorem Fd.some {f : Addr} {H : Hp} (h : Fd H f) : ∃ u, H f = some u := by
  obtain ⟨g, m, e⟩ := h
  exact ⟨_, e⟩
/-- a node laid: its items' tuple, then itself -/
theorem node_at {f p2 p3 : Addr} {H0 H1 G2 G3 : Hp} {n : Nat} {s : Str} {vi : V} {xs : List V} (h0 : Fd H0 f) (b : But f H0 H1) (hf : Fd H1 f) (hi : Dt (Nw H0) 6 H1 (n + 1) vi) (hx : ∀ x ∈ xs, Dt (Nw H0) 6 H1 n x) (hl : xs.length ≤ 6)
    (hG2 : upd H1 p2 (.tup xs) = G2) (n2 : H1 p2 = none) (hG3 : upd G2 p3 (.tup [.str s, vi, .ref p2]) = G3) (n3 : G2 p3 = none) (hs : leafV (.str s) = true) :
    But f H0 G3 ∧ Fd G3 f ∧ But f H1 G3 ∧ TN (n + 2) (Nw H0) G3 (.ref p3) := by
  obtain ⟨u, h0⟩ := h0.some
  obtain ⟨a1, a2, a3, a4, a5, a6⟩ := alloc_at hG2 n2 b hf
  obtain ⟨b1, b2, b3, b4, b5, b6⟩ := alloc_at hG3 n3 a1 a2
  refine ⟨b1, b2, a3.trans b3, TN.mk b6 b4 hs ?_ ?_⟩
  · exact mo_dt.step h0 (a3.trans b3) hi
  · exact .tup a6 (b3 _ _ a5 a4) hl fun x hx' => mo_dt.step h0 (a3.trans b3) (hx x hx')
/-- an empty tuple -/
theorem nil_at {f p : Addr} {H0 H1 G : Hp} (h0 : Fd H0 f) (b : But f H0 H1) (hf : Fd H1 f) (hG : upd H1 p (.tup []) = G) (np : H1 p = none) : But f H0 G ∧ Fd G f ∧ But f H1 G ∧ ∀ n, Dt (Nw H0) 6 G (n + 1) (.ref p) := by
  obtain ⟨a1, a2, a3, a4, a5, a6⟩ := alloc_at hG np b hf
  exact ⟨a1, a2, a3, fun n => .tup a6 a4 (Nat.zero_le _) fun x hx => by cases hx⟩
section
variable {P : Program} {w : World} {K : PySem.W.Frag} {mg : Str → Option Value} {base : Heap}
abbrev sMk : Stmt := top 41
abbrev sLit : Stmt := top 33
theorem scMk : FnScope ["_law_feed", "_law_path", "_law_turn"] ["_law_feed"] (defScope sMk) := ⟨rfl, rfl, rfl, by decide +kernel, rfl, by decide +kernel, by decide +kernel⟩
theorem scLit : FnScope ["_law_feed", "_law_word", "_law_some"] ["_law_feed"] (defScope sLit) := ⟨rfl, rfl, rfl, by decide +kernel, rfl, by decide +kernel, by decide +kernel⟩
def spGen (T : (Addr → Prop) → Hp → V → Prop) : Sp := fun vs H Q _ => ∃ f : Addr, vs = [.ref f] ∧ Fd H f ∧ ∀ (v : V) (H' : Hp), But f H H' → Fd H' f → T (Nw H) H' v → Q v H'
abbrev tDr (many : Int) : TE := tCall spDraw [] E0 (tCons (tVar 0) (tCons (tC (V.int many)) tNil))
def tPath : TE := tLc (iRng1 (tCons (tDr 4) tNil)) (gName 2) tYes (tDr 4) [2]
abbrev MT (N : Addr → Prop) (H : Hp) (v : V) : Prop := Dt N 6 H 2 v
def MKs : List V := [.str "or", .str "w", .str "zzzzzzzz"]
theorem mks_leaf : ∀ x ∈ MKs, leafV x = true := by decide +kernel
theorem ok_mk {f fD fP : Addr} {fd dD dP : FuncData} (F : Fun K "_law_mark" "_law_mark" sMk f fd) (B : BI mg) (mr : mg "range" = none) (CD : Cal P w K mg base "_law_draw" 1 fD dD ["_law_feed", "_law_many"] [] spDraw)
    (CP : Cal P w K mg base "_law_pick" 2 fP dP ["_law_feed", "_law_items"] [] spPick) : FnOk P w K mg base CX0 3 f fd ["_law_feed"] (spGen MT) := by
  refine F.ok scMk (fun vs H Q E h => ?_) (fun cdv A outer s H vs Q E hr h => ?_)
  · obtain ⟨f, rfl, _⟩ := h
    rfl
  · obtain ⟨f, rfl, hf, q⟩ := h
    have hr1 : Room 1 _ := hr.mono (by decide)
    refine ⟨_, pss_cons (ps_set (i := 1) scMk.nd rfl (.inl rfl) (pe_callTy call_tuple_of (by rfl) B.tup (by decide +kernel) (pa_cons
          (pe_lc (own := [("_law_turn", 2)]) (g := gName 2) (tt := tYes) rfl scMk.nd (pi_range1 rfl mr (pa_cons (pe_call CD.G hr1 rfl CD.m CD.k CD.b .nil pass0 (pa_cons (pv 0) (pa_cons pe_int pa_nil))) pa_nil)) (blkOk_by (N := ["_law_feed", "_law_path", "_law_turn"]) (sc := defScope sMk) (by decide +kernel))
            (fun _ _ _ _ _ => pg_name (i := 2) scMk.nd rfl (Or.inl rfl)) (fun _ _ _ _ _ => pts_nil) (fun _ _ _ _ _ => pe_call CD.G hr1 rfl CD.m CD.k CD.b .nil pass0 (pa_cons (pv 0) (pa_cons pe_int pa_nil)))) pa_nil)))
      (pss_one (ps_ret (pe_tup (pa_cons (pe_call CP.G hr rfl CP.m CP.k CP.b .nil pass0 (pa_cons (pv 0) (pa_cons (pe_lst (pa_cons pe_str (pa_cons pe_str (pa_cons pe_str pa_nil)))) pa_nil))) (pa_cons (pe_call CD.G hr1 rfl CD.m CD.k CD.b .nil pass0 (pa_cons (pv 0) (pa_cons pe_int pa_nil))) (pa_cons (pv 1) pa_nil)))))), ?_⟩
    obtain ⟨g0, m0, hf0⟩ := hf
    have hf : Fd H f := ⟨g0, m0, hf0⟩
    unfold tSeq
    dsimp only
    unfold tAsg tCB
    show tPath [some (.ref f), none, none] H _
    refine gen_comp (T := fun N H v => Dt N 6 H 0 v) mo_dt (len := 4) hf (by decide) ?_ ?_ (fun _ => rfl) ?_
    · intro Q' k
      exact draw_ok rfl hf (by decide) (by decide) fun d H1 hd b hf1 => k d H1 (by omega) b hf1
    · intro v H2 Q' hf2 k
      exact draw_ok rfl hf2 (by decide) (by decide) fun d H3 hd b hf3 => k _ H3 b hf3 (leaf_nat d)
    · intro D acc H1 b1 hf1 nD Df eD la ha
      refine ⟨D, acc, rfl, .inl ⟨SqL.of eD, fun l nl => ?_⟩⟩
      have b2 : But f H (upd H1 l (.tup acc)) := but_alloc b1 nl
      have hf2 : Fd (upd H1 l (.tup acc)) f := hf1.alloc nl
      obtain ⟨g1, m1, hf1'⟩ := hf1
      have nl0 : H l = none := b1.none hf1' nl
      have dl : Dt (Nw H) 6 (upd H1 l (.tup acc)) 1 (.ref l) := .tup nl0 upd_same (by omega) fun x hx => .leaf (ha x hx)
      generalize upd H1 l (.tup acc) = H2 at b2 hf2 dl ⊢
      refine ⟨_, rfl, (by show 3 ≤ sizeLine; decide), fun p np => ?_⟩
      generalize hG : upd H2 p (.lst _) = G
      obtain ⟨bG, fG, b2G, eG, pf, np0⟩ := alloc_at hG np b2 hf2
      obtain ⟨g2, m2, fG⟩ := fG
      refine ⟨f, p, g2, m2, MKs, rfl, fG, eG, pf, by decide, by decide, fun x g3 m3 hx => ?_⟩
      have b3 : But f G (upd G f (.lst [.int g3, .int m3])) := But.upd
      have hf3 : Fd (upd G f (.lst [.int g3, .int m3])) f := ⟨g3, m3, upd_same⟩
      generalize upd G f (.lst [.int g3, .int m3]) = H3 at b3 hf3 ⊢
      have b3' := bG.trans b3
      have dl3 := mo_dt.step hf0 (b2G.trans b3) dl
      refine draw_ok rfl hf3 (by decide) (by decide) fun d H4 hd b4 hf4 => ?_
      have dl4 := mo_dt.step hf0 b4 dl3
      refine ⟨_, rfl, (by show 3 ≤ sizeLine; decide), fun t nt => ?_⟩
      have b5 := but_alloc (o := .tup [x, .int d, .ref l]) (b3'.trans b4) nt
      obtain ⟨g4, m4, hf4'⟩ := hf4
      have nt0 : H t = none := (b3'.trans b4).none hf4' nt
      refine q _ _ b5 ⟨g4, m4, same_new nt _ _ hf4'⟩ ?_
      refine .tup nt0 upd_same (by show 3 ≤ 6; decide) fun y hy => ?_
      simp only [List.mem_cons, List.not_mem_nil, or_false] at hy
      rcases hy with rfl | rfl | rfl
      · exact .leaf (mks_leaf _ hx)
      · exact .leaf (leaf_nat d)
      · exact mo_dt.step hf0 (.of (same_new nt)) dl4
def WDs : List V := [.str "red", .str "a", .str "kind", .str "empt", .str "zzzzzzzz"]
theorem wds_leaf : ∀ x ∈ WDs, leafV x = true := by decide +kernel
theorem ok_lit {f fD fP : Addr} {fd dD dP : FuncData} (F : Fun K "_law_literal" "_law_literal" sLit f fd) (B : BI mg) (CD : Cal P w K mg base "_law_draw" 1 fD dD ["_law_feed", "_law_many"] [] spDraw)
    (CP : Cal P w K mg base "_law_pick" 2 fP dP ["_law_feed", "_law_items"] [] spPick) : FnOk P w K mg base CX0 3 f fd ["_law_feed"] (spGen (TN 3)) := by
  refine F.ok scLit (fun vs H Q E h => ?_) (fun cdv A outer s H vs Q E hr h => ?_)
  · obtain ⟨f, rfl, _⟩ := h
    rfl
  · obtain ⟨f, rfl, hf, q⟩ := h
    have hr1 : Room 1 _ := hr.mono (by decide)
    refine ⟨_, pss_cons (ps_set (i := 1) scLit.nd rfl (.inl rfl) (pe_call CP.G hr rfl CP.m CP.k CP.b .nil pass0 (pa_cons (pv 0) (pa_cons (pe_lst (pa_cons pe_str (pa_cons pe_str (pa_cons pe_str (pa_cons pe_str (pa_cons pe_str pa_nil)))))) pa_nil))))
      (pss_cons (ps_set (i := 2) scLit.nd rfl (.inl rfl) (pe_lst (pa_cons (pe_tup (pa_cons pe_str (pa_cons (pe_tup pa_nil) (pa_cons (pe_tup (pa_cons (pe_op op_sub (pe_call CD.G hr1 rfl CD.m CD.k CD.b .nil pass0 (pa_cons (pv 0) (pa_cons pe_int pa_nil))) pe_int) pa_nil)) pa_nil))))
        (pa_cons (pe_tup (pa_cons pe_str (pa_cons (pe_tup pa_nil) (pa_cons (pe_tup (pa_cons (pe_cmpR op_eq (pe_call CD.G hr1 rfl CD.m CD.k CD.b .nil pass0 (pa_cons (pv 0) (pa_cons pe_int pa_nil))) pe_int (nomark _)) pa_nil)) pa_nil))))
        (pa_cons (pe_tup (pa_cons pe_str (pa_cons (pe_tup pa_nil) (pa_cons (pe_tup (pa_cons (pv 1) pa_nil)) pa_nil)))) pa_nil)))))
      (pss_one (ps_ret (pe_call CP.G hr rfl CP.m CP.k CP.b .nil pass0 (pa_cons (pv 0) (pa_cons (pe_op op_cat (pv 2) (pe_lst (pa_cons (pe_tup (pa_cons pe_str (pa_cons (pe_tup pa_nil) (pa_cons (pe_tup (pa_cons pe_str pa_nil)) pa_nil))))
        (pa_cons (pe_ix ix_list (pv 2) pe_int (fun _ _ => rfl)) pa_nil)))) pa_nil)))))), ?_⟩
    have h0 := hf
    obtain ⟨u0, hu0⟩ := hf.some
    -- the word
    refine ⟨_, rfl, (by show 5 ≤ sizeLine; decide), fun pw nw => ?_⟩
    generalize hG : upd H pw (.lst _) = G
    obtain ⟨bG, fG, b2G, eG, pf, np0⟩ := alloc_at hG nw But.refl hf
    obtain ⟨g2, m2, fG⟩ := fG
    refine ⟨f, pw, g2, m2, WDs, rfl, fG, eG, pf, by decide, by decide, fun x g3 m3 hx => ?_⟩
    have b1 : But f H (upd G f (.lst [.int g3, .int m3])) := bG.trans But.upd
    have hf1 : Fd (upd G f (.lst [.int g3, .int m3])) f := ⟨g3, m3, upd_same⟩
    generalize upd G f (.lst [.int g3, .int m3]) = H1 at b1 hf1 ⊢
    have lx := wds_leaf x hx
    -- the first
    refine ⟨Nat.zero_le _, fun q1 k1 => ?_⟩
    generalize hE1 : upd H1 q1 (.tup []) = E1
    obtain ⟨c1, d1, _, i1⟩ := nil_at h0 b1 hf1 hE1 k1
    refine draw_ok rfl d1 (by decide) (by decide) fun dr H2 _ b2 hf2 => ⟨_, _, rfl, rfl, (by show 1 ≤ sizeLine; decide), fun q2 k2 => ?_⟩
    generalize hE2 : upd H2 q2 (.tup _) = E2
    refine ⟨(by show 3 ≤ sizeLine; decide), fun q3 k3 => ?_⟩
    generalize hE3 : upd E2 q3 (.tup _) = E3
    obtain ⟨c3, d3, _, t3⟩ := node_at (n := 1) h0 (c1.trans b2) hf2 (mo_dt.step hu0 b2 (i1 1)) (xs := [.int ((dr : Int) - 2)]) (fun y hy => by rw [List.mem_singleton.mp hy]; exact .leaf (leaf_ge (by omega))) (by show 1 ≤ 6; decide) hE2 k2 hE3 k3 (by decide +kernel)
    -- the second
    refine ⟨Nat.zero_le _, fun q4 k4 => ?_⟩
    generalize hE4 : upd E3 q4 (.tup []) = E4
    obtain ⟨c4, d4, s4, i4⟩ := nil_at h0 c3 d3 hE4 k4
    refine draw_ok rfl d4 (by decide) (by decide) fun dr2 H5 _ b5 hf5 => ⟨rfl, (by show 1 ≤ sizeLine; decide), fun q5 k5 => ?_⟩
    generalize hE5 : upd H5 q5 (.tup _) = E5
    refine ⟨(by show 3 ≤ sizeLine; decide), fun q6 k6 => ?_⟩
    generalize hE6 : upd E5 q6 (.tup _) = E6
    obtain ⟨c6, d6, s6, t6⟩ := node_at (n := 1) h0 (c4.trans b5) hf5 (mo_dt.step hu0 b5 (i4 1)) (xs := [.bl _]) (fun y hy => by rw [List.mem_singleton.mp hy]; exact .leaf rfl) (by show 1 ≤ 6; decide) hE5 k5 hE6 k6 (by decide +kernel)
    have t3 := mo_tn.step hu0 (s4.trans (b5.trans s6)) t3
    -- the third
    refine ⟨Nat.zero_le _, fun q7 k7 => ?_⟩
    generalize hE7 : upd E6 q7 (.tup []) = E7
    obtain ⟨c7, d7, s7, i7⟩ := nil_at h0 c6 d6 hE7 k7
    refine ⟨_, rfl, (by show 1 ≤ sizeLine; decide), fun q8 k8 => ?_⟩
    generalize hE8 : upd E7 q8 (.tup _) = E8
    refine ⟨(by show 3 ≤ sizeLine; decide), fun q9 k9 => ?_⟩
    generalize hE9 : upd E8 q9 (.tup _) = E9
    obtain ⟨c9, d9, s9, t9⟩ := node_at (n := 1) h0 c7 d7 (i7 1) (xs := [x]) (fun y hy => by rw [List.mem_singleton.mp hy]; exact .leaf lx) (by show 1 ≤ 6; decide) hE8 k8 hE9 k9 (by decide +kernel)
    have t3 := mo_tn.step hu0 (s7.trans s9) t3
    have t6 := mo_tn.step hu0 (s7.trans s9) t6
    -- the list
    refine ⟨(by show 3 ≤ sizeLine; decide), fun r1 l1 => ?_⟩
    generalize hF1 : upd E9 r1 (.lst _) = F1
    obtain ⟨c10, d10, s10, e10, pf10, _⟩ := alloc_at hF1 l1 c9 d9
    refine ⟨_, rfl, _, rfl, Nat.zero_le _, fun q10 k10 => ?_⟩
    generalize hE10 : upd F1 q10 (.tup []) = E10
    obtain ⟨c11, d11, s11, i11⟩ := nil_at h0 c10 d10 hE10 k10
    refine ⟨(by show 1 ≤ sizeLine; decide), fun q11 k11 => ?_⟩
    generalize hE11 : upd E10 q11 (.tup _) = E11
    refine ⟨(by show 3 ≤ sizeLine; decide), fun q12 k12 => ?_⟩
    generalize hE12 : upd E11 q12 (.tup _) = E12
    obtain ⟨c13, d13, s13, t13⟩ := node_at (n := 1) h0 c11 d11 (i11 1) (xs := [.str "fact"]) (fun y hy => by rw [List.mem_singleton.mp hy]; exact .leaf (by decide +kernel)) (by show 1 ≤ 6; decide) hE11 k11 hE12 k12 (by decide +kernel)
    have e13 := s13 _ _ pf10 (s11 _ _ pf10 e10)
    refine ⟨_, rfl, r1, _, _, _, rfl, rfl, SqL.of e13, atI_nat (j := 0) rfl, (by show 2 ≤ sizeLine; decide), fun r2 l2 => ?_⟩
    generalize hF2 : upd E12 r2 (.lst _) = F2
    obtain ⟨c14, d14, s14, e14, pf14, _⟩ := alloc_at hF2 l2 c13 d13
    refine ⟨r1, r2, _, _, rfl, rfl, s14 _ _ pf10 e13, e14, (by show 3 + 2 ≤ sizeLine; decide), fun r3 l3 => ?_⟩
    generalize hF3 : upd F2 r3 (.lst _) = F3
    obtain ⟨c15, d15, s15, e15, pf15, _⟩ := alloc_at hF3 l3 c14 d14
    obtain ⟨g9, m9, f15⟩ := d15
    refine ⟨f, r3, g9, m9, _, rfl, f15, e15, pf15, (by show 0 < 5; decide), (by show 5 ≤ 1000; decide), fun v g10 m10 hv => ?_⟩
    have b16 : But f F3 (upd F3 f (.lst [.int g10, .int m10])) := But.upd
    have hf16 : Fd (upd F3 f (.lst [.int g10, .int m10])) f := ⟨g10, m10, upd_same⟩
    generalize upd F3 f (.lst [.int g10, .int m10]) = H9 at b16 hf16 ⊢
    refine q v H9 (c15.trans b16) hf16 ?_
    have z1 : But f E9 H9 := s10.trans (s11.trans (s13.trans (s14.trans (s15.trans b16))))
    have z2 : But f E12 H9 := s14.trans (s15.trans b16)
    simp only [List.cons_append, List.nil_append, List.mem_cons, List.not_mem_nil, or_false] at hv
    rcases hv with rfl | rfl | rfl | rfl | rfl
    · exact mo_tn.step hu0 z1 t3
    · exact mo_tn.step hu0 z1 t6
    · exact mo_tn.step hu0 z1 t9
    · exact mo_tn.step hu0 z2 t13
    · exact mo_tn.step hu0 z1 t3
end
end K02

set_option Elab.async false
set_option linter.all false
set_option maxRecDepth 100000
set_option maxHeartbeats 1000000
namespace K02
open PySem PySem.Spec PyProof.Rows L2
abbrev nIT : List Str := ["_law_feed", "_law_deep", "_law_form", "_law_ink", "_law_turn", "_law_some", "_law_items", "_law_heads", "_law_item", "_law_many", "_law_kids", "_law_head"]
abbrev sIT : Stmt := top 40
theorem scIT : FnScope nIT ["_law_feed", "_law_deep"] (defScope sIT) := ⟨rfl, rfl, rfl, by decide +kernel, rfl, by decide +kernel, by decide +kernel⟩
section
variable {P : Program} {w : World} {K : PySem.W.Frag} {mg : Str → Option Value} {base : Heap}
def spIT (n : Nat) : Sp := fun vs H Q _ => ∃ (f : Addr) (d : Nat), vs = [.ref f, .int d] ∧ d < n ∧ Fd H f ∧ ∀ (v : V) (H' : Hp), But f H H' → Fd H' f → TN (4 + 4 * d) (Nw H) H' v → Q v H'
def tKid (n : Nat) : TE := tCall (spIT n) [] E0 (tCons (tVar 0) (tCons (tOp (rI0 fun i j => V.int (i - j)) (tVar 1) (tC (V.int 1))) tNil))
/-- a list of drawn nodes, one less deep -/
def tKids (n : Nat) (tr : TE) : TE := tLc (iRng1 (tCons tr tNil)) (gName 4) tYes (tKid n) [4]
theorem kids_ok {n d len : Nat} {f : Addr} {H : Hp} {Q : VK} {x2 x3 x4 x5 x6 x7 x8 x9 x10 x11 : Option V} {tr : TE} (hd : 0 < d) (hn : d ≤ n) (hf : Fd H f) (hlen : len ≤ 4)
    (hr : ∀ Q' : VK, (∀ (kn : Nat) (H1 : Hp), kn ≤ len → But f H H1 → Fd H1 f → Q' (.int kn) H1) → tr [some (.ref f), some (.int d), x2, x3, x4, x5, x6, x7, x8, x9, x10, x11] H Q')
    (q : ∀ (D : Addr) (acc : List V) (H' : Hp), But f H H' → Fd H' f → H D = none → D ≠ f → H' D = some (.lst acc) → acc.length ≤ len → (∀ x ∈ acc, TN (4 * d) (fun a => H a = none ∧ a ≠ D) H' x) → Q (.ref D) H') :
    tKids n tr [some (.ref f), some (.int d), x2, x3, x4, x5, x6, x7, x8, x9, x10, x11] H Q := by
  refine gen_comp mo_tn hf hlen hr ?_ (fun _ => rfl) q
  intro v H2 Q' hf2 k
  refine ⟨_, rfl, _, rfl, _, _, rfl, rfl, f, d - 1, ?_, by omega, hf2, fun x H3 b3 hf3 t => k x H3 b3 hf3 (t.le (by omega))⟩
  show [V.ref f, V.int ((d : Int) - 1)] ++ [] = _
  rw [show ((d : Int) - 1) = ((d - 1 : Nat) : Int) by omega]
  rfl
/-- the ink -/
def tInkG : TE := tLc (iRng1 (tCons (tOp (rI CMul fun i j => V.int (i * j)) (tDr 3) (tCB (fun xs H Q => (∃ i, xs = [V.int i] ∧ Q (V.int i) H) ∨ ∃ k, xs = [V.bl k] ∧ Q (V.int (if k = true then 1 else 0)) H) (tCons (tOp rEq (tDr 2) (tC (V.int 0))) tNil))) tNil)) (gName 4) tYes (tCall (spGen MT) [] E0 (tCons (tVar 0) tNil)) [4]
theorem ink_ok {f : Addr} {H : Hp} {Q : VK} {x1 x2 x3 x4 x5 x6 x7 x8 x9 x10 x11 : Option V} (hf : Fd H f)
    (q : ∀ (D : Addr) (acc : List V) (H' : Hp), But f H H' → Fd H' f → H D = none → D ≠ f → H' D = some (.lst acc) → acc.length ≤ 4 → (∀ x ∈ acc, MT (fun a => H a = none ∧ a ≠ D) H' x) → Q (.ref D) H') :
    tInkG [some (.ref f), x1, x2, x3, x4, x5, x6, x7, x8, x9, x10, x11] H Q := by
  refine gen_comp (T := MT) mo_dt (len := 4) hf (by decide) ?_ ?_ (fun _ => rfl) q
  · intro Q' k
    refine draw_ok rfl hf (by decide) (by decide) fun d H1 hd b hf1 => ?_
    refine draw_ok rfl hf1 (by decide) (by decide) fun d2 H2 hd2 b2 hf2 => ?_
    refine ⟨rfl, .inr ⟨_, rfl, ?_⟩⟩
    by_cases e : V.int ((d2 : Nat) : Int) = V.int 0
    · rw [decide_eq_true e]
      refine ⟨_, _, rfl, rfl, .inr ⟨by decide, by decide⟩, ?_⟩
      rw [if_pos rfl]
      dsimp only
      rw [Int.mul_one]
      exact k d H2 (by omega) (b.trans b2) hf2
    · rw [decide_eq_false e]
      refine ⟨_, _, rfl, rfl, .inr ⟨by decide, by decide⟩, ?_⟩
      rw [if_neg Bool.false_ne_true]
      dsimp only
      rw [Int.mul_zero]
      exact k 0 H2 (by omega) (b.trans b2) hf2
  · intro v H2 Q' hf2 k
    exact ⟨_, rfl, f, rfl, hf2, fun x H3 b3 hf3 t => k x H3 b3 hf3 t⟩
def rTupOf (K : PySem.W.Frag) : List V → Hp → VK → Prop := fun xs H Q => ∃ p ys, xs = [V.ref p] ∧ ((SqL K H p ys ∧ ∀ (l : Addr), H l = none → Q (V.ref l) (upd H l (.tup ys))) ∨ SqT K H p ys ∧ Q (V.ref p) H)
theorem tuple_at {f l : Addr} {H0 H1 G : Hp} {m : Nat} {acc : List V} (h0 : Fd H0 f) (b : But f H0 H1) (hf : Fd H1 f) (ha : ∀ x ∈ acc, Dt (Nw H0) 6 H1 m x) (hl : acc.length ≤ 6) (hG : upd H1 l (.tup acc) = G) (nl : H1 l = none) :
    But f H0 G ∧ Fd G f ∧ But f H1 G ∧ G l = some (.tup acc) ∧ Dt (Nw H0) 6 G (m + 1) (.ref l) := by
  obtain ⟨u, hu⟩ := h0.some
  obtain ⟨a1, a2, a3, a4, a5, a6⟩ := alloc_at hG nl b hf
  exact ⟨a1, a2, a3, a4, .tup a6 a4 hl fun x hx => mo_dt.step hu a3 (ha x hx)⟩
theorem rebase {f D : Addr} {m : Nat} {H0 H1 H2 : Hp} {v : V} (b : But f H0 H1) (hf : Fd H1 f) (h : TN m (fun a => H1 a = none ∧ a ≠ D) H2 v) : TN m (Nw H0) H2 v := by
  obtain ⟨u, hu⟩ := hf.some
  exact mo_tn.mono (fun a z => b.none hu z.1) (fun _ _ _ e => e) h
def tNd (s : Str) (ti tk : TE) : TE := tTup (tCons (tC (V.str s)) (tCons ti (tCons tk tNil)))
def tsA : TS := tSeq (tAsg (tLst (tCons (tCall (spGen (TN 3)) [] E0 (tCons (tVar 0) tNil)) (tCons (tNd "name" (tVar 3) (tTup (tCons (tDr 4) tNil))) (tCons (tNd "ref" (tTup tNil) (tTup (tCons (tOp (rI0 fun i j => V.int (i + j)) (tC (V.int 1)) (tDr 9)) tNil))) tNil)))) (gName 5))
  (tRet (tCall spPick [] E0 (tCons (tVar 0) (tCons (tOp rCat (tVar 5) (tLst (tCons (tNd "global" (tTup tNil) (tTup (tCons (tC (V.str "fact")) tNil))) (tCons (tNd "list" (tVar 3) (tTup tNil)) (tCons (tNd "made" (tTup tNil) (tTup tNil)) tNil))))) tNil))))
theorem tsA_ok {D : Ends} {f l : Addr} {d fm m : Nat} {H0 H1 : Hp} {x4 x5 x6 x7 x8 x9 x10 x11 : Option V} (h0 : Fd H0 f) (b1 : But f H0 H1) (hf1 : Fd H1 f) (hl : Dt (Nw H0) 6 H1 3 (.ref l)) (hm : 4 ≤ m)
    (fin : ∀ (v : V) (H' : Hp), But f H1 H' → Fd H' f → TN m (Nw H0) H' v → D.rt v H') : tsA D [some (.ref f), some (.int d), some (.int fm), some (.ref l), x4, x5, x6, x7, x8, x9, x10, x11] H1 := by
  obtain ⟨u0, hu0⟩ := h0.some
  refine ⟨_, rfl, f, rfl, hf1, fun v1 H2 b2 hf2 t1 => ?_⟩
  obtain ⟨u1, hu1⟩ := hf1.some
  have t1 := mo_tn.base b1 hu1 t1
  have bb2 := b1.trans b2
  have hl := mo_dt.step hu0 b2 hl
  refine ⟨_, rfl, ?_⟩
  refine draw_ok rfl hf2 (by decide) (by decide) fun dr H3 _ b3 hf3 => ⟨(by show 1 ≤ sizeLine; decide), fun q2 k2 => ?_⟩
  have hl := mo_dt.step hu0 b3 hl
  generalize hE2 : upd H3 q2 (.tup _) = E2
  refine ⟨(by show 3 ≤ sizeLine; decide), fun q3 k3 => ?_⟩
  generalize hE3 : upd E2 q3 (.tup _) = E3
  obtain ⟨c3, d3, s3, t3⟩ := node_at (n := 2) h0 (bb2.trans b3) hf3 hl (xs := [.int (dr : Int)]) (fun y hy => by rw [List.mem_singleton.mp hy]; exact .leaf (leaf_nat _)) (by show 1 ≤ 6; decide) hE2 k2 hE3 k3 (by decide +kernel)
  have t1 := mo_tn.step hu0 (b3.trans s3) t1
  have hl := mo_dt.step hu0 s3 hl
  refine ⟨Nat.zero_le _, fun q4 k4 => ?_⟩
  generalize hE4 : upd E3 q4 (.tup []) = E4
  obtain ⟨c4, d4, s4, i4⟩ := nil_at h0 c3 d3 hE4 k4
  refine draw_ok rfl d4 (by decide) (by decide) fun dr2 H5 _ b5 hf5 => ⟨_, _, rfl, rfl, (by show 1 ≤ sizeLine; decide), fun q5 k5 => ?_⟩
  generalize hE5 : upd H5 q5 (.tup _) = E5
  refine ⟨(by show 3 ≤ sizeLine; decide), fun q6 k6 => ?_⟩
  generalize hE6 : upd E5 q6 (.tup _) = E6
  obtain ⟨c6, d6, s6, t6⟩ := node_at (n := 1) h0 (c4.trans b5) hf5 (mo_dt.step hu0 b5 (i4 1)) (xs := [.int (1 + (dr2 : Int))]) (fun y hy => by rw [List.mem_singleton.mp hy]; exact .leaf (leaf_ge (by omega))) (by show 1 ≤ 6; decide) hE5 k5 hE6 k6 (by decide +kernel)
  have z6 := s4.trans (b5.trans s6)
  have t1 := mo_tn.step hu0 z6 t1
  have t3 := mo_tn.step hu0 z6 t3
  have hl := mo_dt.step hu0 z6 hl
  refine ⟨(by show 3 ≤ sizeLine; decide), fun r1 l1 => ?_⟩
  generalize hF1 : upd E6 r1 (.lst _) = F1
  obtain ⟨c10, d10, s10, e10, pf10, _⟩ := alloc_at hF1 l1 c6 d6
  refine ⟨_, rfl, _, rfl, Nat.zero_le _, fun q10 k10 => ?_⟩
  generalize hE10 : upd F1 q10 (.tup []) = E10
  obtain ⟨c11, d11, s11, i11⟩ := nil_at h0 c10 d10 hE10 k10
  refine ⟨(by show 1 ≤ sizeLine; decide), fun q11 k11 => ?_⟩
  generalize hE11 : upd E10 q11 (.tup _) = E11
  refine ⟨(by show 3 ≤ sizeLine; decide), fun q12 k12 => ?_⟩
  generalize hE12 : upd E11 q12 (.tup _) = E12
  obtain ⟨c13, d13, s13, t13⟩ := node_at (n := 1) h0 c11 d11 (i11 1) (xs := [.str "fact"]) (fun y hy => by rw [List.mem_singleton.mp hy]; exact .leaf (by decide +kernel)) (by show 1 ≤ 6; decide) hE11 k11 hE12 k12 (by decide +kernel)
  have z13 := s10.trans (s11.trans s13)
  have t1 := mo_tn.step hu0 z13 t1
  have t3 := mo_tn.step hu0 z13 t3
  have t6 := mo_tn.step hu0 z13 t6
  have hl := mo_dt.step hu0 z13 hl
  -- list
  refine ⟨_, rfl, Nat.zero_le _, fun q14 k14 => ?_⟩
  generalize hE14 : upd E12 q14 (.tup _) = E14
  refine ⟨(by show 3 ≤ sizeLine; decide), fun q15 k15 => ?_⟩
  generalize hE15 : upd E14 q15 (.tup _) = E15
  obtain ⟨c15, d15, s15, t15⟩ := node_at (n := 2) h0 c13 d13 hl (xs := []) (fun y hy => by cases hy) (by decide) hE14 k14 hE15 k15 (by decide +kernel)
  -- made
  refine ⟨Nat.zero_le _, fun q16 k16 => ?_⟩
  generalize hE16 : upd E15 q16 (.tup _) = E16
  obtain ⟨c16, d16, s16, i16⟩ := nil_at h0 c15 d15 hE16 k16
  refine ⟨Nat.zero_le _, fun q17 k17 => ?_⟩
  generalize hE17 : upd E16 q17 (.tup _) = E17
  refine ⟨(by show 3 ≤ sizeLine; decide), fun q18 k18 => ?_⟩
  generalize hE18 : upd E17 q18 (.tup _) = E18
  obtain ⟨c18, d18, s18, t18⟩ := node_at (n := 1) h0 c16 d16 (i16 1) (xs := []) (fun y hy => by cases hy) (by decide) hE17 k17 hE18 k18 (by decide +kernel)
  have z18 := s16.trans s18
  refine ⟨(by show 3 ≤ sizeLine; decide), fun r2 l2 => ?_⟩
  generalize hF2 : upd E18 r2 (.lst _) = F2
  obtain ⟨c19, d19, s19, e19, pf19, _⟩ := alloc_at hF2 l2 c18 d18
  have zA : But f E6 F2 := z13.trans (s15.trans (z18.trans s19))
  refine ⟨r1, r2, _, _, rfl, rfl, (s11.trans (s13.trans (s15.trans (z18.trans s19)))) _ _ pf10 e10, e19, (by show 3 + 3 ≤ sizeLine; decide), fun r3 l3 => ?_⟩
  generalize hF3 : upd F2 r3 (.lst _) = F3
  obtain ⟨c20, d20, s20, e20, pf20, _⟩ := alloc_at hF3 l3 c19 d19
  obtain ⟨g9, m9, f20⟩ := d20
  refine ⟨f, r3, g9, m9, _, rfl, f20, e20, pf20, (by show 0 < 6; decide), (by show 6 ≤ 1000; decide), fun v g10 m10 hv => ?_⟩
  have b21 : But f F3 (upd F3 f (.lst [.int g10, .int m10])) := But.upd
  have hf21 : Fd (upd F3 f (.lst [.int g10, .int m10])) f := ⟨g10, m10, upd_same⟩
  generalize upd F3 f (.lst [.int g10, .int m10]) = H9 at b21 hf21 ⊢
  have y19 := s19.trans (s20.trans b21)
  have y18 := z18.trans y19
  have y15 := s15.trans y18
  have y12 : But f E12 H9 := y15
  refine fin v H9 (b2.trans (b3.trans (s3.trans (z6.trans (z13.trans y12))))) hf21 ?_
  simp only [List.cons_append, List.nil_append, List.mem_cons, List.not_mem_nil, or_false] at hv
  rcases hv with rfl | rfl | rfl | rfl | rfl | rfl
  · exact (mo_tn.step hu0 y12 t1).le (by omega)
  · exact (mo_tn.step hu0 y12 t3).le (by omega)
  · exact (mo_tn.step hu0 y12 t6).le (by omega)
  · exact (mo_tn.step hu0 y12 t13).le (by omega)
  · exact (mo_tn.step hu0 y18 t15).le (by omega)
  · exact (mo_tn.step hu0 y19 t18).le (by omega)
/-- the function -/
def tsF (n : Nat) : TS := tRet (tNd "fun" (tVar 3) (tTup (tCons (tDr 5) (tCons (tKid n) tNil))))
theorem tsF_ok {D : Ends} {f l : Addr} {n d fm : Nat} {H0 H1 : Hp} {x4 x5 x6 x7 x8 x9 x10 x11 : Option V} (h0 : Fd H0 f) (b1 : But f H0 H1) (hf1 : Fd H1 f) (hl : Dt (Nw H0) 6 H1 3 (.ref l)) (hd : 0 < d) (hn : d ≤ n)
    (fin : ∀ (v : V) (H' : Hp), But f H1 H' → Fd H' f → TN (4 + 4 * d) (Nw H0) H' v → D.rt v H') : tsF n D [some (.ref f), some (.int d), some (.int fm), some (.ref l), x4, x5, x6, x7, x8, x9, x10, x11] H1 := by
  obtain ⟨u0, hu0⟩ := h0.some
  refine ⟨_, rfl, ?_⟩
  refine draw_ok rfl hf1 (by decide) (by decide) fun dr H2 _ b2 hf2 => ?_
  refine ⟨_, rfl, _, rfl, _, _, rfl, rfl, f, d - 1, ?_, by omega, hf2, fun v H3 b3 hf3 t3 => ?_⟩
  · show [V.ref f, V.int ((d : Int) - 1)] ++ [] = _
    rw [show ((d : Int) - 1) = ((d - 1 : Nat) : Int) by omega]
    rfl
  obtain ⟨u2, hu2⟩ := hf2.some
  have t3 := mo_tn.base (b1.trans b2) hu2 t3
  have hl := mo_dt.step hu0 (b2.trans b3) hl
  refine ⟨(by show 2 ≤ sizeLine; decide), fun q2 k2 => ?_⟩
  generalize hE2 : upd H3 q2 (.tup _) = E2
  refine ⟨(by show 3 ≤ sizeLine; decide), fun q3 k3 => ?_⟩
  generalize hE3 : upd E2 q3 (.tup _) = E3
  obtain ⟨c3, d3, s3, t4⟩ := node_at (n := 4 * d + 2) h0 ((b1.trans b2).trans b3) hf3 (hl.le (by omega)) (xs := [.int (dr : Int), v]) (fun y hy => by
    simp only [List.mem_cons, List.not_mem_nil, or_false] at hy
    rcases hy with rfl | rfl
    · exact .leaf (leaf_nat _)
    · exact t3.1.le (by omega)) (by show 2 ≤ 6; decide) hE2 k2 hE3 k3 (by decide +kernel)
  exact fin _ E3 (b2.trans (b3.trans s3)) d3 (t4.le (by omega))
/-- the use -/
def FORs : List V := [.str "or", .str "w", .str "for"]
theorem fors_leaf : ∀ x ∈ FORs, leafV x = true := by decide +kernel
def tsU (K : PySem.W.Frag) (n : Nat) : TS := tSeq (tAsg (tDr 4) (gName 9)) (tSeq (tAsg (tCB (rTupOf K) (tCons (tKids n (tVar 9)) tNil)) (gName 10))
  (tRet (tNd "use" (tVar 3) (tOp (rCatA K) (tTup (tCons (tCall spPick [] E0 (tCons (tVar 0) (tCons (tLst (tCons (tC (V.str "or")) (tCons (tC (V.str "w")) (tCons (tC (V.str "for")) tNil)))) tNil))) (tCons (tOp (rI0 fun i j => V.int (i + j)) (tVar 9) (tDr 2)) tNil))) (tVar 10)))))
theorem tsU_ok {D : Ends} {f l : Addr} {n d fm : Nat} {H0 H1 : Hp} {x4 x5 x6 x7 x8 x9 x10 x11 : Option V} (h0 : Fd H0 f) (b1 : But f H0 H1) (hf1 : Fd H1 f) (hl : Dt (Nw H0) 6 H1 3 (.ref l)) (hd : 0 < d) (hn : d ≤ n)
    (fin : ∀ (v : V) (H' : Hp), But f H1 H' → Fd H' f → TN (4 + 4 * d) (Nw H0) H' v → D.rt v H') : tsU K n D [some (.ref f), some (.int d), some (.int fm), some (.ref l), x4, x5, x6, x7, x8, x9, x10, x11] H1 := by
  obtain ⟨u0, hu0⟩ := h0.some
  refine draw_ok rfl hf1 (by decide) (by decide) fun dr H2 hdr b2 hf2 => ?_
  unfold tSeq
  dsimp only
  unfold tAsg tCB
  dsimp only [gName, List.set]
  show tKids n (tVar 9) [some (.ref f), some (.int d), some (.int fm), some (.ref l), x4, x5, x6, x7, x8, some (.int (dr : Int)), x10, x11] H2 _
  refine kids_ok (len := 4) hd hn hf2 (by decide) ?_ ?_
  · intro Q' k
    exact ⟨_, rfl, k dr H2 (by omega) But.refl hf2⟩
  · intro DD acc H3 b3 hf3 nD Df eD la ha
    have ha : ∀ x ∈ acc, TN (4 * d) (Nw H0) H3 x := fun x hx => rebase (b1.trans b2) hf2 (ha x hx)
    refine ⟨DD, acc, rfl, .inl ⟨SqL.of eD, fun t nt => ?_⟩⟩
    generalize hG : upd H3 t (.tup _) = G
    obtain ⟨c4, d4, s4, e4, t4⟩ := tuple_at h0 ((b1.trans b2).trans b3) hf3 (fun x hx => (ha x hx).1) (by omega) hG nt
    refine ⟨_, rfl, _, rfl, (by show 3 ≤ sizeLine; decide), fun pw nw => ?_⟩
    generalize hP : upd G pw (.lst _) = Gp
    obtain ⟨c5, d5, s5, e5, pf5, _⟩ := alloc_at hP nw c4 d4
    obtain ⟨g5, m5, f5⟩ := d5
    refine ⟨f, pw, g5, m5, FORs, rfl, f5, e5, pf5, by decide, by decide, fun x g6 m6 hx => ?_⟩
    have b6 : But f Gp (upd Gp f (.lst [.int g6, .int m6])) := But.upd
    have hf6 : Fd (upd Gp f (.lst [.int g6, .int m6])) f := ⟨g6, m6, upd_same⟩
    generalize upd Gp f (.lst [.int g6, .int m6]) = H6 at b6 hf6 ⊢
    refine ⟨_, rfl, ?_⟩
    refine draw_ok rfl hf6 (by decide) (by decide) fun dr2 H7 _ b7 hf7 => ⟨_, _, rfl, rfl, (by show 2 ≤ sizeLine; decide), fun q8 k8 => ?_⟩
    generalize hE8 : upd H7 q8 (.tup _) = E8
    have c7 := c5.trans (b6.trans b7)
    obtain ⟨c8, d8, s8, e8, pf8, n8⟩ := alloc_at hE8 k8 c7 hf7
    have tf : t ≠ f := fun e => by
      obtain ⟨_, _, e1⟩ := hf3
      rw [e, e1] at nt
      cases nt
    have z48 := s5.trans (b6.trans (b7.trans s8))
    have e4' := z48 _ _ tf e4
    have hl8 : Dt (Nw H0) 6 E8 3 (.ref l) := mo_dt.step hu0 (b2.trans (b3.trans (s4.trans z48))) hl
    have hxs : ∀ y ∈ ([x, .int ((dr : Int) + (dr2 : Int))] : List V) ++ acc, Dt (Nw H0) 6 E8 (4 * d) y := fun y hy => by
      rcases List.mem_append.mp hy with hy | hy
      · simp only [List.mem_cons, List.not_mem_nil, or_false] at hy
        rcases hy with rfl | rfl
        · exact .leaf (fors_leaf _ hx)
        · exact .leaf (leaf_ge (by omega))
      · exact (mo_tn.step hu0 (s4.trans z48) (ha y hy)).1
    refine ⟨_, rfl, q8, t, _, acc, rfl, rfl, SqT.of e8, SqT.of e4', ?_, (fun h => by cases h), fun _ hnil => ?_, fun _ hne p np => ?_⟩
    · exact Nat.le_trans (Nat.add_le_add_left la _) (by show 2 + 4 ≤ sizeLine; decide)
    · subst hnil
      refine ⟨(by show 3 ≤ sizeLine; decide), fun q9 k9 => ?_⟩
      generalize hE9 : upd E8 q9 (.tup _) = E9
      obtain ⟨c9, d9, s9, e9, pf9, n9⟩ := alloc_at hE9 k9 c8 d8
      refine fin _ E9 (b2.trans (b3.trans (s4.trans (z48.trans s9)))) d9 (TN.le (n := 4 * d + 3) (by omega) (TN.mk n9 e9 (by decide +kernel) (mo_dt.step hu0 s9 (hl8.le (by omega))) ?_))
      refine Dt.le (n := 4 * d + 1) (by omega) (.tup n8 (s9 _ _ pf8 e8) (by show 2 ≤ 6; decide) fun y hy => mo_dt.step hu0 s9 (hxs y (by simpa using hy)))
    · generalize hE10 : upd E8 p (.tup _) = E10
      refine ⟨(by show 3 ≤ sizeLine; decide), fun q9 k9 => ?_⟩
      generalize hE9 : upd E10 q9 (.tup _) = E9
      obtain ⟨c9, d9, s9, t9⟩ := node_at (n := 4 * d + 2) h0 c8 d8 (hl8.le (by omega)) (fun y hy => (hxs y hy).le (by omega)) (by
        rw [List.length_append]
        show 2 + acc.length ≤ 6
        omega) hE10 np hE9 k9 (by decide +kernel)
      exact fin _ E9 (b2.trans (b3.trans (s4.trans (z48.trans s9)))) d9 (t9.le (by omega))
end
end K02

set_option Elab.async false
set_option linter.all false
set_option maxRecDepth 100000
set_option maxHeartbeats 1000000
namespace K02
open PySem PySem.Spec PyProof.Rows L2
def HD5 : List Str := (["let", "try", "if", "list", "call"] : List String).map Str.ofString
def HDl : List Str := (ONESl ++ TWOSl) ++ HD5
theorem hd_ok : ∀ s ∈ HDl, leafV (.str s) = true ∧ 0 ≤ manyN s ∧ manyN s ≤ 4 := by decide +kernel
section
variable {P : Program} {w : World} {K : PySem.W.Frag} {mg : Str → Option Value} {base : Heap}
def tsT (K : PySem.W.Frag) (n : Nat) : TS := tRet (tTup (tCons (tVar 11) (tCons (tVar 3) (tCons (tCB (rTupOf K) (tCons (tKids n (tVar 9)) tNil)) tNil))))
def tsE (K : PySem.W.Frag) (n : Nat) : TS := tSeq (tAsg (tCall spPick [] E0 (tCons (tVar 0) (tCons (tOp rCat (tOp rCat (tCall (spStrs ONESl) [] E0 tNil) (tCall (spStrs TWOSl) [] E0 tNil)) (tLst (tCons (tC (V.str "let")) (tCons (tC (V.str "try")) (tCons (tC (V.str "if")) (tCons (tC (V.str "list")) (tCons (tC (V.str "call")) tNil))))))) tNil))) (gName 11))
  (tSeq (tAsg (tMany K 11) (gName 9)) (tSeq (tAsg (tIf (tTest (tOp (rI0 fun i j => V.bl (decide (j < i))) (tVar 9) (tC (V.int 0)))) (tVar 9) (tOp (rI0 fun i j => V.int (i + j)) (tC (V.int 1)) (tDr 4))) (gName 9)) (tsT K n)))
theorem tsT_ok {D : Ends} {f l : Addr} {n d fm kn : Nat} {z : Str} {H0 H1 : Hp} {x4 x5 x6 x7 x8 x10 : Option V} (h0 : Fd H0 f) (b1 : But f H0 H1) (hf1 : Fd H1 f) (hl : Dt (Nw H0) 6 H1 3 (.ref l)) (hd : 0 < d) (hn : d ≤ n) (hk : kn ≤ 4) (hz : leafV (.str z) = true)
    (fin : ∀ (v : V) (H' : Hp), But f H1 H' → Fd H' f → TN (4 + 4 * d) (Nw H0) H' v → D.rt v H') : tsT K n D [some (.ref f), some (.int d), some (.int fm), some (.ref l), x4, x5, x6, x7, x8, some (.int kn), x10, some (.str z)] H1 := by
  obtain ⟨u0, hu0⟩ := h0.some
  refine ⟨_, rfl, _, rfl, ?_⟩
  try dsimp only
  show tCB (rTupOf K) (tCons (tKids n (tVar 9)) tNil) [some (.ref f), some (.int d), some (.int fm), some (.ref l), x4, x5, x6, x7, x8, some (.int (kn : Int)), x10, some (.str z)] H1 _
  unfold tCB
  show tKids n (tVar 9) [some (.ref f), some (.int d), some (.int fm), some (.ref l), x4, x5, x6, x7, x8, some (.int (kn : Int)), x10, some (.str z)] H1 _
  refine kids_ok (len := 4) hd hn hf1 (by decide) ?_ ?_
  · intro Q' k
    exact ⟨_, rfl, k kn H1 (by omega) But.refl hf1⟩
  · intro DD acc H3 b3 hf3 nD Df eD la ha
    have ha : ∀ x ∈ acc, TN (4 * d) (Nw H0) H3 x := fun x hx => rebase b1 hf1 (ha x hx)
    refine ⟨DD, acc, rfl, .inl ⟨SqL.of eD, fun t nt => ?_⟩⟩
    generalize hG : upd H3 t (.tup _) = G
    refine ⟨(by show 3 ≤ sizeLine; decide), fun q9 k9 => ?_⟩
    generalize hE9 : upd G q9 (.tup _) = E9
    obtain ⟨c9, d9, s9, t9⟩ := node_at (n := 4 * d + 2) h0 (b1.trans b3) hf3 (mo_dt.step hu0 b3 (hl.le (by omega))) (fun y hy => (ha y hy).1.le (by omega)) (by omega) hG nt hE9 k9 hz
    exact fin _ E9 (b3.trans s9) d9 (t9.le (by omega))
theorem tsE_ok {D : Ends} {f l : Addr} {n d fm : Nat} {H0 H1 : Hp} {x4 x5 x6 x7 x8 x9 x10 x11 : Option V} (h0 : Fd H0 f) (b1 : But f H0 H1) (hf1 : Fd H1 f) (hl : Dt (Nw H0) 6 H1 3 (.ref l)) (hd : 0 < d) (hn : d ≤ n)
    (fin : ∀ (v : V) (H' : Hp), But f H1 H' → Fd H' f → TN (4 + 4 * d) (Nw H0) H' v → D.rt v H') : tsE K n D [some (.ref f), some (.int d), some (.int fm), some (.ref l), x4, x5, x6, x7, x8, x9, x10, x11] H1 := by
  obtain ⟨u0, hu0⟩ := h0.some
  refine ⟨_, rfl, rfl, fun pO HO sO hO _ => ⟨rfl, fun pT HT sT hT _ => ⟨pO, pT, _, _, rfl, rfl, sT _ _ hO, hT, (by decide +kernel), fun p2 n2 => ?_⟩⟩⟩
  rw [← List.map_append]
  have cT := b1.trans (.of (sO.trans sT))
  obtain ⟨gf, mf, ef⟩ := hf1
  have dT : Fd HT f := ⟨gf, mf, sT _ _ (sO _ _ ef)⟩
  generalize hA2 : upd HT p2 (.lst _) = A2
  obtain ⟨c2, d2, s2, e2, pf2, _⟩ := alloc_at hA2 n2 cT dT
  refine ⟨(by show 5 ≤ sizeLine; decide), fun p3 n3 => ?_⟩
  generalize hA3 : upd A2 p3 (.lst _) = A3
  obtain ⟨c3, d3, s3, e3, pf3, _⟩ := alloc_at hA3 n3 c2 d2
  refine ⟨p2, p3, _, HD5.map V.str, rfl, rfl, s3 _ _ pf2 e2, e3, (by decide +kernel), fun p4 n4 => ?_⟩
  rw [← List.map_append]
  generalize hA4 : upd A3 p4 (.lst _) = A4
  obtain ⟨c4, d4, s4, e4, pf4, _⟩ := alloc_at hA4 n4 c3 d3
  obtain ⟨g4, m4, f4⟩ := d4
  refine ⟨f, p4, g4, m4, _, rfl, f4, e4, pf4, (by decide +kernel), (by decide +kernel), fun x g5 m5 hx => ?_⟩
  have b5 : But f A4 (upd A4 f (.lst [.int g5, .int m5])) := But.upd
  have hf5 : Fd (upd A4 f (.lst [.int g5, .int m5])) f := ⟨g5, m5, upd_same⟩
  generalize upd A4 f (.lst [.int g5, .int m5]) = H5 at b5 hf5 ⊢
  obtain ⟨z, hz, rfl⟩ := List.mem_map.mp hx
  obtain ⟨z1, z2, z3⟩ := hd_ok z hz
  unfold tSeq
  try dsimp only
  unfold tAsg
  dsimp only [gName, List.set]
  refine many_ok (i := 11) (z := z) rfl fun H6 s6 => ?_
  obtain ⟨g5', m5', f5⟩ := hf5
  have hf6 : Fd H6 f := ⟨g5', m5', s6 _ _ f5⟩
  have b16 : But f H1 H6 := (But.of (sO.trans sT)).trans (s2.trans (s3.trans (s4.trans (b5.trans (.of s6)))))
  have hl6 := mo_dt.step hu0 b16 hl
  refine ⟨_, rfl, _, _, rfl, rfl, _, rfl, ?_⟩
  refine ite2 (fun c => ?_) (fun c => ?_)
  · refine ⟨_, rfl, ?_⟩
    obtain ⟨kn, hkn⟩ : ∃ kn : Nat, manyN z = (kn : Int) := ⟨(manyN z).toNat, by omega⟩
    rw [hkn] at z3 ⊢
    exact tsT_ok h0 (b1.trans b16) hf6 hl6 hd hn (by omega) z1 fun v H' b' hf' t => fin v H' (b16.trans b') hf' t
  · refine draw_ok rfl hf6 (by decide) (by decide) fun dr H7 hdr b7 hf7 => ⟨_, _, rfl, rfl, ?_⟩
    have e7 : (1 : Int) + (dr : Int) = ((1 + dr : Nat) : Int) := by omega
    dsimp only
    rw [e7]
    exact tsT_ok h0 ((b1.trans b16).trans b7) hf7 (mo_dt.step hu0 b7 hl6) hd hn (by omega) z1 fun v H' b' hf' t => fin v H' (b16.trans (b7.trans b')) hf' t
def tMapI (K : PySem.W.Frag) : TE := tLc (iList K (tVar 6)) (gName 8) tYes (tIf (tTest (tOp (rIn K false) (tOp (rIxT K) (tVar 8) (tC (V.int 0))) (tVar 7))) (tVar 8) (tNd "fun" (tVar 3) (tTup (tCons (tC (V.int 1)) (tCons (tVar 8) tNil))))) [8]
def tsM (K : PySem.W.Frag) (n : Nat) : TS := tSeq (tAsg (tKids n (tDr 4)) (gName 6)) (tSeq (tAsg (tTup (tCons (tC (V.str "int")) (tCons (tC (V.str "quote")) (tCons (tC (V.str "flag")) (tCons (tC (V.str "global")) (tCons (tC (V.str "made")) (tCons (tC (V.str "ref")) (tCons (tC (V.str "fun")) (tCons (tC (V.str "use")) tNil))))))))) (gName 7))
  (tRet (tNd "made" (tTup tNil) (tCB (rTupOf K) (tCons (tMapI K) tNil)))))
theorem tsM_ok {D : Ends} {f l : Addr} {n d fm : Nat} {H0 H1 : Hp} {x4 x5 x6 x7 x8 x9 x10 x11 : Option V} (h0 : Fd H0 f) (b1 : But f H0 H1) (hf1 : Fd H1 f) (hl : Dt (Nw H0) 6 H1 3 (.ref l)) (hd : 0 < d) (hn : d ≤ n)
    (fin : ∀ (v : V) (H' : Hp), But f H1 H' → Fd H' f → TN (4 + 4 * d) (Nw H0) H' v → D.rt v H') : tsM K n D [some (.ref f), some (.int d), some (.int fm), some (.ref l), x4, x5, x6, x7, x8, x9, x10, x11] H1 := by
  obtain ⟨u0, hu0⟩ := h0.some
  unfold tsM tSeq
  try dsimp only
  unfold tAsg
  refine kids_ok (len := 4) hd hn hf1 (by decide) ?_ ?_
  · intro Q' k
    exact draw_ok rfl hf1 (by decide) (by decide) fun dr H2 hdr b2 hf2 => k dr H2 (by omega) b2 hf2
  · intro DD acc H2 b2 hf2 nD Df eD la ha
    have ha : ∀ x ∈ acc, TN (4 * d) (Nw H0) H2 x := fun x hx => rebase b1 hf1 (ha x hx)
    have hl2 := mo_dt.step hu0 b2 hl
    refine ⟨(by show 8 ≤ sizeLine; decide), fun th nh => ?_⟩
    generalize hG : upd H2 th (.tup _) = G
    obtain ⟨c3, d3, s3, e3, pf3, _⟩ := alloc_at hG nh (b1.trans b2) hf2
    refine ⟨Nat.zero_le _, fun pe ne => ?_⟩
    generalize hE : upd G pe (.tup _) = E
    obtain ⟨c4, d4, s4, i4⟩ := nil_at h0 c3 d3 hE ne
    have s24 := s3.trans s4
    have ha4 : ∀ x ∈ acc, TN (4 * d) (Nw H0) E x := fun x hx => mo_tn.step hu0 s24 (ha x hx)
    have hl4 := mo_dt.step hu0 s24 hl2
    have eD4 := s24 _ _ Df eD
    have e3' := s4 _ _ pf3 e3
    refine ⟨_, rfl, DD, rfl, ⟨acc, SqL.of eD4⟩, fun D2 nD2 => ?_⟩
    have D2f : D2 ≠ f := fun e => by
      obtain ⟨_, _, e1⟩ := d4
      rw [e, e1] at nD2
      cases nD2
    -- what stays whatever befalls the new list
    let good (H : Hp) (x : V) : Prop := ∀ H', (∀ a o, a ≠ f → a ≠ D2 → H a = some o → H' a = some o) → Dt (Nw H0) 6 H' (4 * d + 2) x
    have hfN : ∀ a, H0 a = none → a ≠ f := fun a z e => by rw [e, hu0] at z; cases z
    refine lc_list (K := K) (a := DD) (xs := acc) (fun i H => (∀ a o, a ≠ D2 → E a = some o → H a = some o) ∧ ∃ bs, H D2 = some (.lst bs) ∧ bs.length = i ∧ ∀ x ∈ bs, good H x)
      ⟨fun a o h e => by rw [upd_ne h]; exact e, [], upd_same, rfl, fun x hx => by cases hx⟩ (fun i H _ p => SqL.of (p.1 _ _ (fun e => by rw [e, nD2] at eD4; cases eD4) eD4)) ?_ ?_
    · rintro i x H hx ⟨keep, bs, eB, lb, hb⟩
      refine ⟨rfl, ?_⟩
      dsimp only [tYes]
      refine iteT ?_
      have tx := ha4 x (List.mem_of_getElem? hx)
      obtain ⟨a, z, vi, vk, rfl, na, eA⟩ := tx.2
      have aD2 : ∀ {b : Addr} {o : HO}, E b = some o → b ≠ D2 := fun e h => by rw [h, nD2] at e; cases e
      have eA' := keep _ _ (aD2 eA) eA
      have eH' := keep _ _ (aD2 e3') e3'
      have gx : ∀ Hx : Hp, (∀ a o, a ≠ D2 → E a = some o → Hx a = some o) → ∀ H' : Hp, (∀ a o, a ≠ f → a ≠ D2 → Hx a = some o → H' a = some o) → Dt (Nw H0) 6 H' (4 * d) (.ref a) := fun Hx kx H' kk =>
        tx.1.mono (Nat.le_refl _) (fun _ q => q) fun b o zb e => kk b o (hfN b zb) (aD2 e) (kx b o (aD2 e) e)
      have gl : ∀ Hx : Hp, (∀ a o, a ≠ D2 → E a = some o → Hx a = some o) → ∀ H' : Hp, (∀ a o, a ≠ f → a ≠ D2 → Hx a = some o → H' a = some o) → Dt (Nw H0) 6 H' 3 (.ref l) := fun Hx kx H' kk =>
        hl4.mono (Nat.le_refl _) (fun _ q => q) fun b o zb e => kk b o (hfN b zb) (aD2 e) (kx b o (aD2 e) e)
      have few : bs.length < sizeLine := small1000 (by
        have := (List.getElem?_eq_some_iff.mp hx).1
        omega)
      refine ⟨_, rfl, a, _, _, _, rfl, rfl, SqT.of eA', atI_nat (j := 0) rfl, _, rfl, th, MADEl.map V.str, rfl, .inr (SqT.of eH'), rfl, strs_flat _, _, rfl, ?_⟩
      refine ite2 (fun c => ?_) (fun c => ?_)
      · refine ⟨_, rfl, bs, eB, few, fun b o h e => by rw [upd_ne h]; exact keep b o h e, bs ++ [.ref a], upd_same, by rw [List.length_append, lb]; rfl, fun y hy => ?_⟩
        intro H' kk
        rcases List.mem_append.mp hy with hy | hy
        · exact hb y hy H' fun b o h1 h2 e => kk b o h1 h2 (by rw [upd_ne h2]; exact e)
        · rw [List.mem_singleton.mp hy]
          exact (gx H keep H' fun b o h1 h2 e => kk b o h1 h2 (by rw [upd_ne h2]; exact e)).le (by omega)
      · refine ⟨_, rfl, _, rfl, (by show 2 ≤ sizeLine; decide), fun q2 k2 => ?_⟩
        generalize hE2 : upd H q2 (.tup _) = E2
        refine ⟨(by show 3 ≤ sizeLine; decide), fun q3 k3 => ?_⟩
        generalize hE3 : upd E2 q3 (.tup _) = E3
        have k2D : q2 ≠ D2 := fun e => by rw [e, eB] at k2; cases k2
        have s2 : Same H E2 := by rw [← hE2]; exact same_new k2
        have s3' : Same E2 E3 := by rw [← hE3]; exact same_new k3
        have eq2 : E2 q2 = some (.tup [.int 1, .ref a]) := by rw [← hE2]; exact upd_same
        have eq3 : E3 q3 = some (.tup [.str "fun", .ref l, .ref q2]) := by rw [← hE3]; exact upd_same
        have eB2 := s2 _ _ eB
        have k3D : q3 ≠ D2 := fun e => by rw [e, eB2] at k3; cases k3
        have keep3 : ∀ a o, a ≠ D2 → E a = some o → E3 a = some o := fun b o h e => s3' _ _ (s2 _ _ (keep b o h e))
        have n0 : ∀ q, H q = none → H0 q = none := fun q hq => by
          cases e : H0 q with
          | none => rfl
          | some o =>
            by_cases hqf : q = f
            · subst hqf
              obtain ⟨g4, m4, e4⟩ := d4
              rw [keep _ _ (aD2 e4) e4] at hq
              cases hq
            · have z := c4 q o hqf e
              rw [keep _ _ (aD2 z) z] at hq
              cases hq
        have nq2 : H0 q2 = none := n0 q2 k2
        have nq3 : H0 q3 = none := n0 q3 (by
          cases e : H q3 with
          | none => rfl
          | some o => rw [s2 _ _ e] at k3; cases k3)
        refine ⟨bs, s3' _ _ eB2, few, fun b o h e => by rw [upd_ne h]; exact keep3 b o h e, bs ++ [.ref q3], upd_same, by rw [List.length_append, lb]; rfl, fun y hy => ?_⟩
        intro H' kk
        have kk' : ∀ b o, b ≠ f → b ≠ D2 → E3 b = some o → H' b = some o := fun b o h1 h2 e => kk b o h1 h2 (by rw [upd_ne h2]; exact e)
        rcases List.mem_append.mp hy with hy | hy
        · exact hb y hy H' fun b o h1 h2 e => kk' b o h1 h2 (s3' _ _ (s2 _ _ e))
        · rw [List.mem_singleton.mp hy]
          refine Dt.tup nq3 (kk' _ _ (hfN _ nq3) k3D eq3) (by show 3 ≤ 6; decide) fun y hy => ?_
          simp only [List.mem_cons, List.not_mem_nil, or_false] at hy
          rcases hy with rfl | rfl | rfl
          · exact .leaf (by decide +kernel)
          · exact (gl E3 keep3 H' kk').le (by omega)
          · refine Dt.tup nq2 (kk' _ _ (hfN _ nq2) k2D (s3' _ _ eq2)) (by show 2 ≤ 6; decide) fun y hy => ?_
            simp only [List.mem_cons, List.not_mem_nil, or_false] at hy
            rcases hy with rfl | rfl
            · exact .leaf (leaf_nat 1)
            · exact gx E3 keep3 H' kk'
    · rintro H ⟨keep, bs, eB, lb, hb⟩
      have bEH : But f E H := fun b o h e => keep b o (fun x => by rw [x, nD2] at e; cases e) e
      have fH : Fd H f := by
        obtain ⟨g4, m4, e4⟩ := d4
        exact ⟨g4, m4, keep _ _ (fun x => D2f x.symm) e4⟩
      refine ⟨D2, bs, rfl, .inl ⟨SqL.of eB, fun t nt => ?_⟩⟩
      generalize hG2 : upd H t (.tup _) = G2
      refine ⟨(by show 3 ≤ sizeLine; decide), fun q9 k9 => ?_⟩
      generalize hE9 : upd G2 q9 (.tup _) = E9
      obtain ⟨c9, d9, s9, t9⟩ := node_at (n := 4 * d + 2) h0 (c4.trans bEH) fH (mo_dt.step hu0 bEH (i4 (4 * d + 2))) (fun y hy => hb y hy H fun _ _ _ _ e => e) (by omega) hG2 nt hE9 k9 (by decide +kernel)
      exact fin _ E9 (b2.trans (s24.trans (bEH.trans s9))) d9 (t9.le (by omega))
end
end K02

set_option Elab.async false
set_option linter.all false
set_option maxRecDepth 100000
set_option maxHeartbeats 1000000
namespace K02
open PySem PySem.Spec PyProof.Rows L2
theorem seq_asg {te : TE} {g : TG} {u : TS} {D : Ends} {σ : L2.St} {H : Hp} (h : te σ H fun x H1 => g x σ H1 fun σ2 H2 => u D σ2 H2) : tSeq (tAsg te g) u D σ H := h
theorem cb_one {R : List V → Hp → VK → Prop} {te : TE} {σ : L2.St} {H : Hp} {Q : VK} (h : te σ H fun x H2 => R [x] H2 Q) : tCB R (tCons te tNil) σ H Q := h
section
variable {P : Program} {w : World} {K : PySem.W.Frag} {mg : Str → Option Value} {base : Heap}
def tsIT (K : PySem.W.Frag) (n : Nat) : TS := tSeq (tAsg (tDr 14) (gName 2)) (tSeq (tAsg (tCB (rTupOf K) (tCons tInkG tNil)) (gName 3))
  (tSeq (tIfS (tOr (tTest (tOp (rI0 fun i j => V.bl (decide (i < j))) (tVar 1) (tC (V.int 1)))) (tTest (tOp (rI0 fun i j => V.bl (decide (i < j))) (tVar 2) (tC (V.int 3))))) tsA tNext)
  (tSeq (tIfS (tTest (tOp rEq (tVar 2) (tC (V.int 3)))) (tsM K n) tNext)
  (tSeq (tIfS (tTest (tOp (rI0 fun i j => V.bl (decide (i < j))) (tVar 2) (tC (V.int 6)))) (tsU K n) tNext)
  (tSeq (tIfS (tTest (tOp rEq (tVar 2) (tC (V.int 6)))) (tsF n) tNext) (tsE K n))))))
theorem tsIT_ok {D : Ends} {f : Addr} {n d : Nat} {H : Hp} (hf : Fd H f) (hn : d ≤ n) (fin : ∀ (v : V) (H' : Hp), But f H H' → Fd H' f → TN (4 + 4 * d) (Nw H) H' v → D.rt v H') :
    tsIT K n D [some (.ref f), some (.int d), none, none, none, none, none, none, none, none, none, none] H := by
  obtain ⟨u0, hu0⟩ := hf.some
  refine seq_asg (draw_ok rfl hf (by decide) (by decide) fun fm H1 hfm b1 hf1 => ?_)
  dsimp only [gName, List.set]
  refine seq_asg (cb_one ?_)
  refine ink_ok hf1 fun DD acc H2 b2 hf2 nD Df eD la ha => ?_
  refine ⟨DD, acc, rfl, .inl ⟨SqL.of eD, fun l nl => ?_⟩⟩
  obtain ⟨u1, hu1⟩ := hf1.some
  have ha : ∀ x ∈ acc, Dt (Nw H) 6 H2 2 x := fun x hx => (ha x hx).mono (Nat.le_refl _) (fun a z => b1.none hu1 z.1) fun _ _ _ e => e
  generalize hG : upd H2 l (.tup _) = G
  obtain ⟨c3, d3, s3, e3, t3⟩ := tuple_at hf (b1.trans b2) hf2 ha (by omega) hG nl
  dsimp only [gName, List.set]
  have fin' : ∀ (v : V) (H' : Hp), But f G H' → Fd H' f → TN (4 + 4 * d) (Nw H) H' v → D.rt v H' := fun v H' b' h' t => fin v H' (c3.trans b') h' t
  refine ⟨_, rfl, _, _, rfl, rfl, _, rfl, ?_⟩
  refine ite2 (fun c => ?_) (fun c => ?_)
  · exact tsA_ok hf c3 d3 t3 (by omega) fin'
  · have hd : 0 < d := by
      have z : ¬ ((d : Int) < 1) := fun x => c (decide_eq_true x)
      omega
    refine ⟨_, rfl, _, _, rfl, rfl, _, rfl, ?_⟩
    refine ite2 (fun c2 => ?_) (fun c2 => ?_)
    · exact tsA_ok hf c3 d3 t3 (by omega) fin'
    · refine ⟨_, rfl, rfl, _, rfl, ?_⟩
      refine ite2 (fun c3' => ?_) (fun c3' => ?_)
      · exact tsM_ok hf c3 d3 t3 hd hn fin'
      · refine ⟨_, rfl, _, _, rfl, rfl, _, rfl, ?_⟩
        refine ite2 (fun c4 => ?_) (fun c4 => ?_)
        · exact tsU_ok hf c3 d3 t3 hd hn fin'
        · refine ⟨_, rfl, rfl, _, rfl, ?_⟩
          refine ite2 (fun c5 => ?_) (fun c5 => ?_)
          · exact tsF_ok hf c3 d3 t3 hd hn fin'
          · exact tsE_ok hf c3 d3 t3 hd hn fin'
theorem ok_it_step {n : Nat} {f fD fP fM fL fO fT : Addr} {fd dD dP dM dL dO dT : FuncData} (F : Fun K "_law_inked_tree" "_law_inked_tree" sIT f fd) (B : BI mg) (mr : mg "range" = none) (bS : Binds K fd ["_law_feed", "_law_deep"] []) (mS : mg "_law_inked_tree" = some (.ref f))
    (CD : Cal P w K mg base "_law_draw" 1 fD dD ["_law_feed", "_law_many"] [] spDraw) (CP : Cal P w K mg base "_law_pick" 2 fP dP ["_law_feed", "_law_items"] [] spPick)
    (CM : Cal P w K mg base "_law_mark" 3 fM dM ["_law_feed"] [] (spGen MT)) (CL : Cal P w K mg base "_law_literal" 3 fL dL ["_law_feed"] [] (spGen (TN 3)))
    (CO : Cal P w K mg base "_law_ones" 1 fO dO [] [] (spStrs ONESl)) (CT : Cal P w K mg base "_law_twos" 1 fT dT [] [] (spStrs TWOSl))
    (G : FnOk P w K mg base CX0 (n + 3) f fd ["_law_feed", "_law_deep"] (spIT n)) : FnOk P w K mg base CX0 (n + 4) f fd ["_law_feed", "_law_deep"] (spIT (n + 1)) := by
  refine F.ok scIT (fun vs H Q E h => ?_) (fun cdv A outer s H vs Q E hr h => ?_)
  · obtain ⟨f, d, rfl, _⟩ := h
    rfl
  · obtain ⟨fe, d, rfl, hdn, hf, q⟩ := h
    have hr1 : Room 1 _ := hr.mono (by omega)
    have hr2 : Room 2 _ := hr.mono (by omega)
    have hr3 : Room 3 _ := hr.mono (by omega)
    have hu : (A.deeper (envOfC "_law_inked_tree" (defScope sIT) s.heap.objs.size f cdv)).units + 1 < cLine := by
      have := hr1.un
      omega
    refine ⟨_, pss_cons (ps_set (i := 2) scIT.nd rfl (.inl rfl) (pe_call CD.G hr1 rfl CD.m CD.k CD.b .nil pass0 (pa_cons (pv 0) (pa_cons pe_int pa_nil))))
      (pss_cons (ps_set (i := 3) scIT.nd rfl (.inr rfl) (pe_callTy call_tuple_of (by rfl) B.tup (by decide +kernel) (pa_cons
          (pe_lc (own := [("_law_turn", 4)]) (g := gName 4) (tt := tYes) rfl scIT.nd (pi_range1 rfl mr (pa_cons (pe_op op_mul (pe_call CD.G hr1 rfl CD.m CD.k CD.b .nil pass0 (pa_cons (pv 0) (pa_cons pe_int pa_nil)))
              (pe_callTy call_int1 (by rfl) B.int (by decide +kernel) (pa_cons (pe_cmpR op_eq (pe_call CD.G hr1 rfl CD.m CD.k CD.b .nil pass0 (pa_cons (pv 0) (pa_cons pe_int pa_nil))) pe_int (nomark _)) pa_nil))) pa_nil)) (blkOk_by (N := nIT) (sc := defScope sIT) (by decide +kernel))
            (fun _ _ _ _ _ => pg_name (i := 4) scIT.nd rfl (Or.inl rfl)) (fun _ _ _ _ _ => pts_nil) (fun _ _ _ _ _ => pe_call CM.G hr3 rfl CM.m CM.k CM.b .nil pass0 (pa_cons (pv 0) pa_nil))) pa_nil)))
      (pss_cons (ps_if (PW.pt (pw_or (pt_cmpR op_lt (pv 1) pe_int (nomark _)) (pw_or1 (pt_cmpR op_lt (pv 2) pe_int (nomark _)))))
        (pss_cons (ps_set (i := 5) scIT.nd rfl (.inl rfl) (pe_lst (pa_cons (pe_call CL.G hr3 rfl CL.m CL.k CL.b .nil pass0 (pa_cons (pv 0) pa_nil))
          (pa_cons (pe_tup (pa_cons pe_str (pa_cons (pv 3) (pa_cons (pe_tup (pa_cons (pe_call CD.G hr1 rfl CD.m CD.k CD.b .nil pass0 (pa_cons (pv 0) (pa_cons pe_int pa_nil))) pa_nil)) pa_nil))))
          (pa_cons (pe_tup (pa_cons pe_str (pa_cons (pe_tup pa_nil) (pa_cons (pe_tup (pa_cons (pe_op op_add pe_int (pe_call CD.G hr1 rfl CD.m CD.k CD.b .nil pass0 (pa_cons (pv 0) (pa_cons pe_int pa_nil)))) pa_nil)) pa_nil)))) pa_nil)))))
        (pss_one (ps_ret (pe_call CP.G hr2 rfl CP.m CP.k CP.b .nil pass0 (pa_cons (pv 0) (pa_cons (pe_op op_cat (pv 5) (pe_lst (pa_cons (pe_tup (pa_cons pe_str (pa_cons (pe_tup pa_nil) (pa_cons (pe_tup (pa_cons pe_str pa_nil)) pa_nil))))
          (pa_cons (pe_tup (pa_cons pe_str (pa_cons (pv 3) (pa_cons (pe_tup pa_nil) pa_nil)))) (pa_cons (pe_tup (pa_cons pe_str (pa_cons (pe_tup pa_nil) (pa_cons (pe_tup pa_nil) pa_nil)))) pa_nil))))) pa_nil)))))) pss_nil)
      (pss_cons (ps_if (pt_cmpR op_eq (pv 2) pe_int (nomark _))
        (pss_cons (ps_setLc (i := 6) (own := [("_law_turn", 4)]) (g := gName 4) (tt := tYes) rfl scIT.nd rfl rfl (sw_true rfl rfl rfl (by decide +kernel)) (pi_range1 rfl mr (pa_cons (pe_call CD.G hr1 rfl CD.m CD.k CD.b .nil pass0 (pa_cons (pv 0) (pa_cons pe_int pa_nil))) pa_nil)) (blkOk_by (N := nIT) (sc := defScope sIT) (by decide +kernel))
            (fun _ _ _ _ _ => pg_name (i := 4) scIT.nd rfl (Or.inl rfl)) (fun _ _ _ _ _ => pts_nil) (fun _ _ _ _ _ => pe_call G hr rfl mS F.kp bS .nil pass0 (pa_cons (pv 0) (pa_cons (pe_op op_sub (pv 1) pe_int) pa_nil))))
        (pss_cons (ps_set (i := 7) scIT.nd rfl (.inr rfl) (pe_tup (pa_cons pe_str (pa_cons pe_str (pa_cons pe_str (pa_cons pe_str (pa_cons pe_str (pa_cons pe_str (pa_cons pe_str (pa_cons pe_str pa_nil))))))))))
        (pss_one (ps_ret (pe_tup (pa_cons pe_str (pa_cons (pe_tup pa_nil) (pa_cons (pe_callTy call_tuple_of (by rfl) B.tup (by decide +kernel) (pa_cons
          (pe_lc (own := [("_law_item", 8)]) (g := gName 8) (tt := tYes) rfl scIT.nd (pi_list (pv 6)) (blkOk_by (N := nIT) (sc := defScope sIT) (by decide +kernel))
            (fun _ _ _ _ _ => pg_name (i := 8) scIT.nd rfl (Or.inl rfl)) (fun _ _ _ _ _ => pts_nil)
            (fun _ _ _ _ _ => pe_ifExp (pt_cmpR (r := rIn K false) op_in_seq (pe_ix (r := rIxT K) ix_tup (pv 8) pe_int (fun _ _ => rfl)) (pv 7) (by rfl)) (pv 8) (pe_tup (pa_cons pe_str (pa_cons (pv 3) (pa_cons (pe_tup (pa_cons pe_int (pa_cons (pv 8) pa_nil))) pa_nil)))))) pa_nil)) pa_nil)))))))) pss_nil)
      (pss_cons (ps_if (pt_cmpR op_lt (pv 2) pe_int (nomark _))
        (pss_cons (ps_set (i := 9) scIT.nd rfl (.inl rfl) (pe_call CD.G hr1 rfl CD.m CD.k CD.b .nil pass0 (pa_cons (pv 0) (pa_cons pe_int pa_nil))))
        (pss_cons (ps_set (i := 10) scIT.nd rfl (.inl rfl) (pe_callTy call_tuple_of (by rfl) B.tup (by decide +kernel) (pa_cons
          (pe_lc (own := [("_law_turn", 4)]) (g := gName 4) (tt := tYes) rfl scIT.nd (pi_range1 rfl mr (pa_cons (pv 9) pa_nil)) (blkOk_by (N := nIT) (sc := defScope sIT) (by decide +kernel))
            (fun _ _ _ _ _ => pg_name (i := 4) scIT.nd rfl (Or.inl rfl)) (fun _ _ _ _ _ => pts_nil) (fun _ _ _ _ _ => pe_call G hr rfl mS F.kp bS .nil pass0 (pa_cons (pv 0) (pa_cons (pe_op op_sub (pv 1) pe_int) pa_nil)))) pa_nil)))
        (pss_one (ps_ret (pe_tup (pa_cons pe_str (pa_cons (pv 3) (pa_cons (pe_op op_catA (pe_tup (pa_cons (pe_call CP.G hr2 rfl CP.m CP.k CP.b .nil pass0 (pa_cons (pv 0) (pa_cons (pe_lst (pa_cons pe_str (pa_cons pe_str (pa_cons pe_str pa_nil)))) pa_nil)))
          (pa_cons (pe_op op_add (pv 9) (pe_call CD.G hr1 rfl CD.m CD.k CD.b .nil pass0 (pa_cons (pv 0) (pa_cons pe_int pa_nil)))) pa_nil))) (pv 10)) pa_nil)))))))) pss_nil)
      (pss_cons (ps_if (pt_cmpR op_eq (pv 2) pe_int (nomark _))
        (pss_one (ps_ret (pe_tup (pa_cons pe_str (pa_cons (pv 3) (pa_cons (pe_tup (pa_cons (pe_call CD.G hr1 rfl CD.m CD.k CD.b .nil pass0 (pa_cons (pv 0) (pa_cons pe_int pa_nil)))
          (pa_cons (pe_call G hr rfl mS F.kp bS .nil pass0 (pa_cons (pv 0) (pa_cons (pe_op op_sub (pv 1) pe_int) pa_nil))) pa_nil))) pa_nil)))))) pss_nil)
      (pss_cons (ps_set (i := 11) scIT.nd rfl (.inl rfl) (pe_call CP.G hr2 rfl CP.m CP.k CP.b .nil pass0 (pa_cons (pv 0) (pa_cons (pe_op op_cat (pe_op op_cat (pe_call0 CO.G hr1 rfl CO.m CO.k CO.b .nil pass0) (pe_call0 CT.G hr1 rfl CT.m CT.k CT.b .nil pass0))
          (pe_lst (pa_cons pe_str (pa_cons pe_str (pa_cons pe_str (pa_cons pe_str (pa_cons pe_str pa_nil))))))) pa_nil))))
      (pss_cons (ps_set (i := 9) scIT.nd rfl (.inl rfl) (pe_dget2 hu (pe_disp (pps_cons pe_str pe_int (pps_cons pe_str pe_int (pps_cons pe_str pe_int pps_nil))) rfl rfl (by decide) (by decide)) (pv 11)
        (pe_op op_add (pe_op op_mul pe_int (pe_callTy call_int1 (by rfl) B.int (by decide +kernel) (pa_cons (pe_cmpR op_in_seq (pv 11) (pe_call0 CO.G hr1 rfl CO.m CO.k CO.b .nil pass0) (by rfl)) pa_nil)))
          (pe_op op_mul pe_int (pe_callTy call_int1 (by rfl) B.int (by decide +kernel) (pa_cons (pe_cmpR op_in_seq (pv 11) (pe_call0 CT.G hr1 rfl CT.m CT.k CT.b .nil pass0) (by rfl)) pa_nil)))) ⟨rfl, rfl, rfl, rfl⟩))
      (pss_cons (ps_set (i := 9) scIT.nd rfl (.inl rfl) (pe_ifExp (pt_cmpR op_gt (pv 9) pe_int (nomark _)) (pv 9) (pe_op op_add pe_int (pe_call CD.G hr1 rfl CD.m CD.k CD.b .nil pass0 (pa_cons (pv 0) (pa_cons pe_int pa_nil))))))
      (pss_one (ps_ret (pe_tup (pa_cons (pv 11) (pa_cons (pv 3) (pa_cons (pe_callTy call_tuple_of (by rfl) B.tup (by decide +kernel) (pa_cons
          (pe_lc (own := [("_law_turn", 4)]) (g := gName 4) (tt := tYes) rfl scIT.nd (pi_range1 rfl mr (pa_cons (pv 9) pa_nil)) (blkOk_by (N := nIT) (sc := defScope sIT) (by decide +kernel))
            (fun _ _ _ _ _ => pg_name (i := 4) scIT.nd rfl (Or.inl rfl)) (fun _ _ _ _ _ => pts_nil) (fun _ _ _ _ _ => pe_call G hr rfl mS F.kp bS .nil pass0 (pa_cons (pv 0) (pa_cons (pe_op op_sub (pv 1) pe_int) pa_nil)))) pa_nil)) pa_nil)))))))))))))), ?_⟩
    show tsIT K n _ [some (.ref fe), some (.int d), none, none, none, none, none, none, none, none, none, none] H
    exact tsIT_ok hf (by omega) q
theorem it_none {f : Addr} {fd : FuncData} : FnOk P w K mg base CX0 3 f fd ["_law_feed", "_law_deep"] (spIT 0) := by
  have no : ∀ vs H Q E, ¬ spIT 0 vs H Q E := fun vs H Q E h => by
    obtain ⟨f, d, _, h1, _⟩ := h
    omega
  exact ⟨fun vs H Q E h => absurd h (no vs H Q E), fun A outer s H args us vs Q E _ _ _ _ h => absurd h (no vs H Q E)⟩
theorem ok_it {f fD fP fM fL fO fT : Addr} {fd dD dP dM dL dO dT : FuncData} (F : Fun K "_law_inked_tree" "_law_inked_tree" sIT f fd) (B : BI mg) (mr : mg "range" = none) (bS : Binds K fd ["_law_feed", "_law_deep"] []) (mS : mg "_law_inked_tree" = some (.ref f))
    (CD : Cal P w K mg base "_law_draw" 1 fD dD ["_law_feed", "_law_many"] [] spDraw) (CP : Cal P w K mg base "_law_pick" 2 fP dP ["_law_feed", "_law_items"] [] spPick)
    (CM : Cal P w K mg base "_law_mark" 3 fM dM ["_law_feed"] [] (spGen MT)) (CL : Cal P w K mg base "_law_literal" 3 fL dL ["_law_feed"] [] (spGen (TN 3)))
    (CO : Cal P w K mg base "_law_ones" 1 fO dO [] [] (spStrs ONESl)) (CT : Cal P w K mg base "_law_twos" 1 fT dT [] [] (spStrs TWOSl)) : ∀ n : Nat, FnOk P w K mg base CX0 (n + 3) f fd ["_law_feed", "_law_deep"] (spIT n)
  | 0 => it_none
  | n + 1 => ok_it_step F B mr bS mS CD CP CM CL CO CT (ok_it F B mr bS mS CD CP CM CL CO CT n)
end
end K02

set_option Elab.async false
set_option linter.all false
set_option maxRecDepth 100000
set_option maxHeartbeats 1000000
namespace K02
open PySem PySem.Spec PyProof.Rows L2
theorem cut_take {xs : List V} (k : Nat) : cutV xs none (some (k : Int)) = xs.take k := by
  unfold cutV
  rw [HT.sIx_none, HT.sIx_nat]
  by_cases h : k ≤ xs.length
  · rw [Nat.min_eq_left h]
    simp
  · have h' : xs.length ≤ k := by omega
    rw [Nat.min_eq_right h', List.take_of_length_le h']
    simp
theorem cut_whole {xs : List V} {lo hi : Option Int} (h : HT.sIx xs.length 0 lo = 0 ∧ HT.sIx xs.length xs.length hi = xs.length) : cutV xs lo hi = xs := by
  unfold cutV
  rw [h.1, h.2]
  simp
theorem leaf_tup {d : PyData} (h : leafD d = true) : isTup d = false := by
  cases d <;> first | rfl | cases h
abbrev Nf (f : Addr) : Addr → Prop := fun a => a ≠ f
theorem Dt.nf {f : Addr} {L n : Nat} {H0 H : Hp} {v : V} (h0 : Fd H0 f) (h : Dt (Nw H0) L H n v) : Dt (Nf f) L H n v := by
  obtain ⟨g, m, e⟩ := h0
  exact h.mono (Nat.le_refl _) (fun a (z : H0 a = none) x => by rw [x, e] at z; cases z) fun _ _ _ e => e
theorem Dt.but {f : Addr} {L L' n : Nat} {H H' : Hp} {v : V} (hL : L ≤ L') (b : But f H H') (h : Dt (Nf f) L H n v) : Dt (Nf f) L' H' n v :=
  h.mono hL (fun _ z => z) fun a o z e => b a o z e
section
variable {P : Program} {w : World} {K : PySem.W.Frag} {mg : Str → Option Value} {base : Heap}
theorem slice_tup {f a : Addr} {xs : List V} {lo hi : Option Int} {H : Hp} {Q : VK} (ha : H a = some (.tup xs)) (af : a ≠ f) (hf : Fd H f)
    (q : ∀ (b : Addr) (H' : Hp), But f H H' → Fd H' f → b ≠ f → H' b = some (.tup (cutV xs lo hi)) → Q (.ref b) H') : rSlA K (.ref a) lo hi H Q := by
  refine ⟨a, xs, rfl, SqT.of ha, fun h => ?_, fun _ p np => ?_⟩
  · exact q a H But.refl hf af (by rw [cut_whole h]; exact ha)
  · obtain ⟨_, d, s, e, pf, _⟩ := alloc_at rfl np But.refl hf
    exact q p _ s d pf e
theorem cat_tup {f a b : Addr} {xs ys : List V} {H : Hp} {Q : VK} (ha : H a = some (.tup xs)) (af : a ≠ f) (hb : H b = some (.tup ys)) (bf : b ≠ f) (hf : Fd H f) (few : xs.length + ys.length ≤ 1000)
    (q : ∀ (p : Addr) (H' : Hp), But f H H' → Fd H' f → p ≠ f → H' p = some (.tup (xs ++ ys)) → Q (.ref p) H') : rCatA K (.ref a) (.ref b) H Q := by
  refine ⟨a, b, xs, ys, rfl, rfl, SqT.of ha, SqT.of hb, Nat.le_of_lt (small1000 few), fun h => ?_, fun _ h => ?_, fun _ _ p np => ?_⟩
  · subst h
    exact q b H But.refl hf bf hb
  · subst h
    exact q a H But.refl hf af (by rw [List.append_nil]; exact ha)
  · obtain ⟨_, d, s, e, pf, _⟩ := alloc_at rfl np But.refl hf
    exact q p _ s d pf e
theorem op_two {r : R2} {ta tb : TE} {σ : L2.St} {H : Hp} {Q : VK} (h : ta σ H fun x H1 => tb σ H1 fun y H2 => r x y H2 Q) : tOp r ta tb σ H Q := h
theorem ret_ {t : TE} {D : Ends} {σ : L2.St} {H : Hp} (h : t σ H D.rt) : tRet t D σ H := h
theorem tup_one {t : TE} {σ : L2.St} {H : Hp} {Q : VK} (h : t σ H fun x H1 => ∀ p, H1 p = none → Q (.ref p) (upd H1 p (.tup [x]))) (mono : ∀ (A B : VK), (∀ x H', A x H' → B x H') → t σ H A → t σ H B) : tTup (tCons t tNil) σ H Q :=
  mono _ _ (fun x H1 z => ⟨(by show 1 ≤ sizeLine; decide), z⟩) h
theorem sl_hi {σ : L2.St} {i j k : Nat} {a : Addr} {H : Hp} {Q : VK} (hi : σ[i]? = some (some (.ref a))) (hj : σ[j]? = some (some (.int (k : Int)))) (h : rSlA K (.ref a) none (some (k : Int)) H Q) : tSl (rSlA K) (tVar i) tNoPart (tPart (tVar j)) σ H Q := ⟨_, hi, _, hj, _, rfl, h⟩
theorem sl_lo {σ : L2.St} {i j k : Nat} {a : Addr} {H : Hp} {Q : VK} (hi : σ[i]? = some (some (.ref a))) (hj : σ[j]? = some (some (.int (k : Int)))) (h : rSlA K (.ref a) (some (k : Int)) none H Q) : tSl (rSlA K) (tVar i) (tPart (tVar j)) tNoPart σ H Q := ⟨_, hi, _, hj, _, rfl, h⟩
theorem sl_lo1 {σ : L2.St} {i j k : Nat} {a : Addr} {H : Hp} {Q : VK} (hi : σ[i]? = some (some (.ref a))) (hj : σ[j]? = some (some (.int (k : Int)))) (h : rSlA K (.ref a) (some ((k + 1 : Nat) : Int)) none H Q) :
    tSl (rSlA K) (tVar i) (tPart (tOp (rI0 fun i j => V.int (i + j)) (tVar j) (tC (V.int 1)))) tNoPart σ H Q := ⟨_, hi, _, hj, _, _, rfl, rfl, _, rfl, h⟩
abbrev sSpo : Stmt := top 42
abbrev nSpo : List Str := ["_law_feed", "_law_thing", "_law_form", "_law_at"]
theorem scSpo : FnScope nSpo ["_law_feed", "_law_thing"] (defScope sSpo) := ⟨rfl, rfl, rfl, by decide +kernel, rfl, by decide +kernel, by decide +kernel⟩
def spSpo (n : Nat) : Sp := fun vs H Q _ => ∃ (f : Addr) (v : V) (m L : Nat), vs = [.ref f, v] ∧ Fd H f ∧ m < n ∧ m ≤ 40 ∧ 6 ≤ L ∧ L ≤ 90 ∧ Dt (Nf f) L H m v ∧
  ∀ (v' : V) (H' : Hp), But f H H' → Fd H' f → Dt (Nf f) (L + 1) H' (m + 4) v' → Q v' H'
theorem ok_spo_step {n : Nat} {f fD fA : Addr} {fd dD dA : FuncData} {dv : List Value} (F : Fun K "_law_spoilt" "_law_spoilt" sSpo f fd) (B : BI mg) (bS : Binds K fd ["_law_feed", "_law_thing"] []) (mS : mg "_law_spoilt" = some (.ref f))
    (CD : Cal P w K mg base "_law_draw" 1 fD dD ["_law_feed", "_law_many"] [] spDraw) (CA : Cal P w K mg base "_law_any_value" 6 fA dA ["_law_feed", "_law_deep"] dv (spAny 4)) (hdv : Vals [.int 3] dv)
    (G : FnOk P w K mg base CX0 (n + 6) f fd ["_law_feed", "_law_thing"] (spSpo n)) : FnOk P w K mg base CX0 (n + 7) f fd ["_law_feed", "_law_thing"] (spSpo (n + 1)) := by
  refine F.ok scSpo (fun vs H Q E h => ?_) (fun cdv A outer s H vs Q E hr h => ?_)
  · obtain ⟨f, v, m, L, rfl, _⟩ := h
    rfl
  · obtain ⟨fe, v, m, L, rfl, hf, hmn, hm, hL6, hL, hv, q⟩ := h
    have hr1 : Room 1 _ := hr.mono (by omega)
    have hr6 : Room 6 _ := hr.mono (by omega)
    have hu : (A.deeper (envOfC "_law_spoilt" (defScope sSpo) s.heap.objs.size f cdv)).units + 64 < cLine := by
      have := hr6.un
      omega
    refine ⟨_, pss_cons (ps_if (PW.pt (pw_or (pt_not (pt_val (pe_callB call_isi (by rfl) B.isi (by decide +kernel) (pa_cons (pv 1) (pa_cons (pe_bltn (v := .ty "tuple") (by rfl) B.tup (by decide +kernel) rfl) pa_nil)))))
        (pw_or (pt_cmpR (op_eqD hu) (pv 1) (pe_tup pa_nil) (nomark _)) (pw_or1 (pt_cmpR op_eq (pe_call CD.G hr1 rfl CD.m CD.k CD.b .nil pass0 (pa_cons (pv 0) (pa_cons pe_int pa_nil))) pe_int (nomark _))))))
        (pss_one (ps_ret (pe_call CA.G hr6 rfl CA.m CA.k CA.b hdv pass0 (pa_cons (pv 0) pa_nil)))) pss_nil)
      (pss_cons (ps_par (i := 2) (j := 3) (by rfl) scSpo.nd rfl rfl (by decide) rfl rfl (pa_cons (pe_call CD.G hr1 rfl CD.m CD.k CD.b .nil pass0 (pa_cons (pv 0) (pa_cons pe_int pa_nil))) (pa_cons (pe_call CD.G hr1 rfl CD.m CD.k CD.b .nil pass0 (pa_cons (pv 0) (pa_cons (pe_callB call_len_seq (by rfl) B.len PySem.boot_len (pa_cons (pv 1) pa_nil)) pa_nil))) pa_nil)) (by rfl))
      (pss_cons (ps_if (pt_cmpR op_eq (pv 2) pe_int (nomark _)) (pss_one (ps_ret (pe_op op_catA (pe_slice sl_tupA (pv 1) po_none (po_some (pv 3))) (pe_slice sl_tupA (pv 1) (po_some (pe_op op_add (pv 3) pe_int)) po_none)))) pss_nil)
      (pss_cons (ps_if (pt_cmpR op_eq (pv 2) pe_int (nomark _)) (pss_one (ps_ret (pe_op op_catA (pe_op op_catA (pe_slice sl_tupA (pv 1) po_none (po_some (pv 3))) (pe_tup (pa_cons (pe_ix ix_tup (pv 1) (pv 3) (fun _ _ => rfl)) pa_nil))) (pe_slice sl_tupA (pv 1) (po_some (pv 3)) po_none)))) pss_nil)
      (pss_cons (ps_if (pt_cmpR op_eq (pv 2) pe_int (nomark _)) (pss_one (ps_ret (pe_callTy call_list_of (by rfl) B.lst (by decide +kernel) (pa_cons (pv 1) pa_nil)))) pss_nil)
      (pss_one (ps_ret (pe_op op_catA (pe_op op_catA (pe_slice sl_tupA (pv 1) po_none (po_some (pv 3))) (pe_tup (pa_cons (pe_call G hr rfl mS F.kp bS .nil pass0 (pa_cons (pv 0) (pa_cons (pe_ix ix_tup (pv 1) (pv 3) (fun _ _ => rfl)) pa_nil))) pa_nil)))
        (pe_slice sl_tupA (pv 1) (po_some (pe_op op_add (pv 3) pe_int)) po_none)))))))), ?_⟩
    -- any value
    have any : ∀ H1, But fe H H1 → Fd H1 fe → tRet (tCall (spAny 4) [.int 3] E0 (tCons (tVar 0) tNil)) { nx := fun _ H' => Q V.non H', rt := Q } [some (.ref fe), some v, none, none] H1 := fun H1 b1 hf1 => by
      have hf1' := hf1
      obtain ⟨g1, m1, hf1⟩ := hf1
      refine ⟨_, rfl, fe, g1, m1, 3, rfl, hf1, by decide, fun v' H' g' m' b' hf' dn => q v' H' (b1.trans b') ⟨g', m', hf'⟩ ?_⟩
      exact ((dn.dt (by omega : 3 ≤ L + 1)).nf hf1').le (by omega)
    refine ⟨_, rfl, v, ?_⟩
    have hvl : leafV v = true ∨ ∃ a xs m', m = m' + 1 ∧ v = .ref a ∧ a ≠ fe ∧ (H a = some (.tup xs) ∨ H a = some (.lst xs)) ∧ xs.length ≤ L ∧ ∀ x ∈ xs, Dt (Nf fe) L H m' x := by
      cases m with
      | zero => exact .inl hv
      | succ m' =>
        rcases hv with h | ⟨a, xs, e, na, h, l, qq⟩
        · exact .inl h
        · exact .inr ⟨a, xs, m', rfl, e, na, h, l, qq⟩
    rcases hvl with h | ⟨a, xs, m', rfl, rfl, af, ha | ha, hl, hx⟩
    · obtain ⟨d, h1, h2⟩ := leaf_data (K := K) (H := H) h
      refine ⟨_, _, _, _, rfl, .ty _, ty_of h1, k_tup, _, rfl, ?_⟩
      exact itT (by rw [leaf_tup h2]; rfl) (any H But.refl hf)
    · refine ⟨_, _, _, true, rfl, .ty _, .base (.tup ha), kit_ty (by decide +kernel), _, rfl, ?_⟩
      refine iteF ?_
      obtain ⟨ds, hd1, hd2, hd3⟩ := all_data (K := K) fun x hx' => (hx x hx').data (by omega)
      refine ⟨_, rfl, Nat.zero_le _, fun p np => ?_⟩
      generalize hG : upd H p (.tup _) = G
      obtain ⟨_, d1, s1, e1, pf1, _⟩ := alloc_at hG np But.refl hf
      have sG : Same H G := by rw [← hG]; exact same_new np
      refine ⟨.tuple ds, .tuple [], .tup (SqT.of (sG _ _ ha)) (dps_mono sG _ _ hd1), .tup (SqT.of e1) .nil, ?_, nil_shaped, ?_⟩
      · exact okD.shaped (n := m' + 1) (.inr ⟨ds, .inl rfl, by omega, hd3⟩) (by omega)
      rw [empty_eqv]
      refine ⟨_, rfl, ?_⟩
      refine ite2 (fun c => ?_) (fun c => ?_)
      · exact any G s1 d1
      · have pos : 0 < xs.length := by
          rw [← hd2]
          cases ds with
          | nil => exact absurd rfl c
          | cons _ _ => exact Nat.succ_pos _
        refine draw_ok rfl d1 (by decide) (by decide) fun dr H2 _ b2 hf2 => ⟨rfl, _, rfl, ?_⟩
        refine ite2 (fun c2 => ?_) (fun c2 => ?_)
        · exact any H2 (s1.trans b2) hf2
        · refine draw_ok rfl hf2 (by decide) (by decide) fun fm H3 _ b3 hf3 => ?_
          have b03 := s1.trans (b2.trans b3)
          have ha3 := b03 _ _ af ha
          obtain ⟨g3, m3, e3⟩ := hf3
          refine ⟨_, rfl, _, rfl, a, xs, rfl, .inr (SqT.of ha3), fe, g3, m3, _, rfl, e3, by omega, by omega, fun at' g4 m4 k0 k1 => ⟨_, _, rfl, ?_⟩⟩
          obtain ⟨k, rfl⟩ : ∃ k : Nat, at' = (k : Int) := ⟨at'.toNat, by omega⟩
          have hk : k < xs.length := by omega
          have b4 : But fe H3 (upd H3 fe (.lst [.int g4, .int m4])) := But.upd
          have hf4 : Fd (upd H3 fe (.lst [.int g4, .int m4])) fe := ⟨g4, m4, upd_same⟩
          generalize upd H3 fe (.lst [.int g4, .int m4]) = H4 at b4 hf4 ⊢
          have b04 := b03.trans b4
          have ha4 := b04 _ _ af ha
          have hx' : ∀ H', But fe H4 H' → ∀ x ∈ xs, Dt (Nf fe) (L + 1) H' (m' + 4) x := fun H' b' x hh => ((hx x hh).but (by omega) (b04.trans b')).le (by omega)
          have fin : ∀ (p : Addr) (ys : List V) (H' : Hp), But fe H4 H' → Fd H' fe → p ≠ fe → (H' p = some (.tup ys) ∨ H' p = some (.lst ys)) → ys.length ≤ L + 1 → (∀ y ∈ ys, Dt (Nf fe) (L + 1) H' (m' + 4) y) → Q (.ref p) H' := fun p ys H' b' f' pf e l hy =>
            q _ H' (b04.trans b') f' (.inr ⟨p, ys, rfl, pf, e, l, hy⟩)
          have hxk : xs[k]? = some xs[k] := List.getElem?_eq_getElem hk
          refine ⟨_, rfl, rfl, _, rfl, ?_⟩
          refine ite2 (fun c3 => ?_) (fun c3 => ?_)
          · refine ret_ (op_two (sl_hi rfl rfl (slice_tup ha4 af hf4 fun p1 H5 s5 f5 p1f e5 => ?_)))
            refine sl_lo1 rfl rfl (slice_tup (s5 _ _ af ha4) af f5 fun p2 H6 s6 f6 p2f e6 => ?_)
            rw [cut_take] at e5
            rw [cut_drop] at e6
            refine cat_tup (s6 _ _ p1f e5) p1f e6 p2f f6 (by rw [List.length_take, List.length_drop]; omega) fun p3 H7 s7 f7 p3f e7 => fin p3 _ H7 (s5.trans (s6.trans s7)) f7 p3f (.inl e7) (by rw [List.length_append, List.length_take, List.length_drop]; omega) fun y hy => ?_
            rcases List.mem_append.mp hy with hy | hy
            · exact hx' _ (s5.trans (s6.trans s7)) y (List.mem_of_mem_take hy)
            · exact hx' _ (s5.trans (s6.trans s7)) y (List.mem_of_mem_drop hy)
          · refine ⟨_, rfl, rfl, _, rfl, ?_⟩
            refine ite2 (fun c4 => ?_) (fun c4 => ?_)
            · refine ret_ (op_two (op_two (sl_hi rfl rfl (slice_tup ha4 af hf4 fun p1 H5 s5 f5 p1f e5 => ?_))))
              rw [cut_take] at e5
              refine ⟨_, rfl, _, rfl, a, xs, _, _, rfl, rfl, SqT.of (s5 _ _ af ha4), atI_nat hxk, (by show 1 ≤ sizeLine; decide), fun p2 n2 => ?_⟩
              generalize hG2 : upd H5 p2 (.tup _) = G2
              obtain ⟨_, f6, s6, e6, p2f, _⟩ := alloc_at hG2 n2 But.refl f5
              refine cat_tup (s6 _ _ p1f e5) p1f e6 p2f f6 (by rw [List.length_take]; show _ + 1 ≤ 1000; omega) fun p3 H7 s7 f7 p3f e7 => ?_
              refine sl_lo rfl rfl (slice_tup (s7 _ _ af (s6 _ _ af (s5 _ _ af ha4))) af f7 fun p4 H8 s8 f8 p4f e8 => ?_)
              rw [cut_drop] at e8
              have s58 := s5.trans (s6.trans (s7.trans s8))
              refine cat_tup (s8 _ _ p3f e7) p3f e8 p4f f8 (by rw [List.length_append, List.length_take, List.length_drop]; show _ + 1 + _ ≤ 1000; omega) fun p5 H9 s9 f9 p5f e9 => fin p5 _ H9 (s58.trans s9) f9 p5f (.inl e9) (by
                rw [List.length_append, List.length_append, List.length_take, List.length_drop]
                show _ + 1 + _ ≤ _
                omega) fun y hy => ?_
              rcases List.mem_append.mp hy with hy | hy
              · rcases List.mem_append.mp hy with hy | hy
                · exact hx' _ (s58.trans s9) y (List.mem_of_mem_take hy)
                · rw [List.mem_singleton.mp hy]
                  exact hx' _ (s58.trans s9) _ (List.getElem_mem hk)
              · exact hx' _ (s58.trans s9) y (List.mem_of_mem_drop hy)
            · refine ⟨_, rfl, rfl, _, rfl, ?_⟩
              refine ite2 (fun c5 => ?_) (fun c5 => ?_)
              · refine ⟨_, rfl, a, xs, rfl, .inr (SqT.of ha4), fun l nl => ?_⟩
                obtain ⟨_, f5, s5, e5, lf, _⟩ := alloc_at (o := .lst xs) rfl nl But.refl hf4
                exact fin l xs _ s5 f5 lf (.inr e5) (by omega) fun y hy => hx' _ s5 y hy
              · refine ret_ (op_two (op_two (sl_hi rfl rfl (slice_tup ha4 af hf4 fun p1 H5 s5 f5 p1f e5 => ?_))))
                rw [cut_take] at e5
                refine ⟨_, rfl, _, rfl, _, rfl, a, xs, _, _, rfl, rfl, SqT.of (s5 _ _ af ha4), atI_nat hxk, fe, xs[k], m', L, rfl, f5, by omega, by omega, hL6, hL, (hx _ (List.getElem_mem hk)).but (Nat.le_refl _) (b04.trans s5), fun v' H6 s6 f6 t6 => ⟨(by show 1 ≤ sizeLine; decide), fun p2 n2 => ?_⟩⟩
                generalize hG2 : upd H6 p2 (.tup _) = G2
                obtain ⟨_, f7, s7, e7, p2f, _⟩ := alloc_at hG2 n2 But.refl f6
                refine cat_tup (s7 _ _ p1f (s6 _ _ p1f e5)) p1f e7 p2f f7 (by rw [List.length_take]; show _ + 1 ≤ 1000; omega) fun p3 H8 s8 f8 p3f e8 => ?_
                refine sl_lo1 rfl rfl (slice_tup (s8 _ _ af (s7 _ _ af (s6 _ _ af (s5 _ _ af ha4)))) af f8 fun p4 H9 s9 f9 p4f e9 => ?_)
                rw [cut_drop] at e9
                have s59 := s5.trans (s6.trans (s7.trans (s8.trans s9)))
                refine cat_tup (s9 _ _ p3f e8) p3f e9 p4f f9 (by rw [List.length_append, List.length_take, List.length_drop]; show _ + 1 + _ ≤ 1000; omega) fun p5 H10 s10 f10 p5f e10 => fin p5 _ H10 (s59.trans s10) f10 p5f (.inl e10) (by
                  rw [List.length_append, List.length_append, List.length_take, List.length_drop]
                  show _ + 1 + _ ≤ _
                  omega) fun y hy => ?_
                rcases List.mem_append.mp hy with hy | hy
                · rcases List.mem_append.mp hy with hy | hy
                  · exact hx' _ (s59.trans s10) y (List.mem_of_mem_take hy)
                  · rw [List.mem_singleton.mp hy]
                    exact t6.but (Nat.le_refl _) (s7.trans (s8.trans (s9.trans s10)))
                · exact hx' _ (s59.trans s10) y (List.mem_of_mem_drop hy)
    · refine ⟨_, _, _, false, rfl, .ty _, .base (.lst ha), kit_ty (by decide +kernel), _, rfl, ?_⟩
      exact iteT (any H But.refl hf)
theorem spo_none {f : Addr} {fd : FuncData} : FnOk P w K mg base CX0 6 f fd ["_law_feed", "_law_thing"] (spSpo 0) := by
  have no : ∀ vs H Q E, ¬ spSpo 0 vs H Q E := fun vs H Q E h => by
    obtain ⟨f, v, m, L, _, _, h1, _⟩ := h
    omega
  exact ⟨fun vs H Q E h => absurd h (no vs H Q E), fun A outer s H args us vs Q E _ _ _ _ h => absurd h (no vs H Q E)⟩
theorem ok_spo {f fD fA : Addr} {fd dD dA : FuncData} {dv : List Value} (F : Fun K "_law_spoilt" "_law_spoilt" sSpo f fd) (B : BI mg) (bS : Binds K fd ["_law_feed", "_law_thing"] []) (mS : mg "_law_spoilt" = some (.ref f))
    (CD : Cal P w K mg base "_law_draw" 1 fD dD ["_law_feed", "_law_many"] [] spDraw) (CA : Cal P w K mg base "_law_any_value" 6 fA dA ["_law_feed", "_law_deep"] dv (spAny 4)) (hdv : Vals [.int 3] dv) : ∀ n : Nat, FnOk P w K mg base CX0 (n + 6) f fd ["_law_feed", "_law_thing"] (spSpo n)
  | 0 => spo_none
  | n + 1 => ok_spo_step F B bS mS CD CA hdv (ok_spo F B bS mS CD CA hdv n)
end
end K02

set_option Elab.async false
set_option linter.all false
set_option maxRecDepth 100000
set_option maxHeartbeats 1000000
namespace K02
open PySem PySem.Spec PyProof.Rows L2
abbrev sLaw : Stmt := top 43
abbrev nLaw : List Str := ["_law_script", "_law_k", "_law_feed", "_law_turn", "_law_tree", "_law_one", "_law_other", "_law_thing"]
theorem scL : FnScope nLaw ["_law_script"] (defScope sLaw) := ⟨rfl, rfl, rfl, by decide +kernel, rfl, by decide +kernel, by decide +kernel⟩
theorem treeT_use : treeT (.str "use") = false := rfl
theorem treeT_nil : treeT (.tuple []) = false := by
  show (nodeD (.tuple []) && (kidsD (.tuple [])).all (treeD 60)) = false
  rw [node_len (by decide), Bool.false_and]
section
variable {P : Program} {w : World} {K : PySem.W.Frag} {mg : Str → Option Value} {base : Heap}
def spLaw (K : PySem.W.Frag) : Sp := fun vs H Q _ => ∃ (a : Addr) (ns : List Int), vs = [.ref a] ∧ SqL K H a (ns.map V.int) ∧ ns.length ≤ 63 ∧ ∀ H', Q (.bl true) H'
structure TL (mg : Str → Option Value) : Prop where
  mr : mg "range" = none
  mx : mg "max" = none
  mm : mg "min" = none
  ml : mg "len" = none
theorem ok_law {f fF fA fI fS fZ fT fL : Addr} {fd dF dA dI dS dZ dT dL : FuncData} {dv : List Value} (F : Fun K "law" "law" sLaw f fd) (T : TL mg)
    (CF : Cal P w K mg base "_law_feed_of" 1 fF dF ["_law_script", "_law_k"] [] (spFeed K)) (CD : ∃ fD dD, Cal P w K mg base "_law_draw" 1 fD dD ["_law_feed", "_law_many"] [] spDraw)
    (CA : Cal P w K mg base "_law_any_value" 6 fA dA ["_law_feed", "_law_deep"] dv (spAny 4)) (hdv : Vals [.int 3] dv)
    (CI : Cal P w K mg base "_law_inked_tree" 7 fI dI ["_law_feed", "_law_deep"] [] (spIT 4)) (CS : Cal P w K mg base "_law_same" 1 fS dS ["_law_found", "_law_due"] [] (spSame 1))
    (CZ : Cal P w K mg base "_law_spoilt" 46 fZ dZ ["_law_feed", "_law_thing"] [] (spSpo 40)) (CT : Cal P w K mg base "is_tree" 7 fT dT ["thing"] [] (spP K treeT))
    (CL : Cal P w K mg base "_law_is_tree" 44 fL dL ["_law_thing"] [] (spLT K 40)) :
    FnOk P w K mg base CX0 47 f fd ["_law_script"] (spLaw K) := by
  obtain ⟨fD, dD, CD⟩ := CD
  refine F.ok scL (fun vs H Q E h => ?_) (fun cdv A outer s H vs Q E hr h => ?_)
  · obtain ⟨a, ns, rfl, _⟩ := h
    rfl
  · obtain ⟨a, ns, rfl, hS, hlen, q⟩ := h
    have hr1 : Room 1 _ := hr.mono (by decide)
    have hr6 : Room 6 _ := hr.mono (by decide)
    have hr7 : Room 7 _ := hr.mono (by decide)
    have hr44 : Room 44 _ := hr.mono (by decide)
    refine ⟨_, pss_cons (ps_for PassesOwn.never rfl (pi_range1 rfl T.mr (pa_cons (pe_callB (call_max2 rfl) (by rfl) T.mx (by decide +kernel) (pa_cons pe_int (pa_cons (pe_callB (call_min2 rfl) (by rfl) T.mm (by decide +kernel)
          (pa_cons pe_int (pa_cons (pe_callB call_len_seq rfl T.ml PySem.boot_len (pa_cons (pv 0) pa_nil)) pa_nil))) pa_nil))) pa_nil)) (pg_name (i := 1) scL.nd rfl (.inl rfl))
        (pss_cons (ps_set (i := 2) scL.nd rfl (.inl rfl) (pe_call CF.G hr1 rfl CF.m CF.k CF.b .nil pass0 (pa_cons (pv 0) (pa_cons (pv 1) pa_nil))))
        (pss_one (ps_for PassesOwn.never rfl (pi_range1 rfl T.mr (pa_cons pe_int pa_nil)) (pg_name (i := 3) scL.nd rfl (.inl rfl))
          (pss_cons (ps_set (i := 4) scL.nd rfl (.inl rfl) (pe_call CI.G hr7 rfl CI.m CI.k CI.b .nil pass0 (pa_cons (pv 2) (pa_cons (pe_op op_add pe_int (pe_call CD.G hr1 rfl CD.m CD.k CD.b .nil pass0 (pa_cons (pv 2) (pa_cons pe_int pa_nil)))) pa_nil))))
          (pss_cons (ps_par (i := 5) (j := 6) (by rfl) scL.nd rfl rfl (by decide) rfl rfl (pa_cons (pe_call CZ.G hr rfl CZ.m CZ.k CZ.b .nil pass0 (pa_cons (pv 2) (pa_cons (pv 4) pa_nil))) (pa_cons (pe_call CA.G hr6 rfl CA.m CA.k CA.b hdv pass0 (pa_cons (pv 2) pa_nil)) pa_nil)) (by rfl))
          (pss_one (ps_for PassesOwn.never rfl (pi_tup (pe_tup (pa_cons (pv 4) (pa_cons (pv 5) (pa_cons (pe_call CZ.G hr rfl CZ.m CZ.k CZ.b .nil pass0 (pa_cons (pv 2) (pa_cons (pv 5) pa_nil)))
              (pa_cons (pe_call CZ.G hr rfl CZ.m CZ.k CZ.b .nil pass0 (pa_cons (pv 2) (pa_cons (pe_call CZ.G hr rfl CZ.m CZ.k CZ.b .nil pass0 (pa_cons (pv 2) (pa_cons (pv 5) pa_nil))) pa_nil))) (pa_cons (pv 6) pa_nil))))))) (pg_name (i := 7) scL.nd rfl (.inl rfl))
            (pss_one (ps_if (pt_not (pt_val (pe_call CS.G hr1 rfl CS.m CS.k CS.b .nil pass0 (pa_cons (pe_call CT.G hr7 rfl CT.m CT.k CT.b .nil pass0 (pa_cons (pv 7) pa_nil)) (pa_cons (pe_call CL.G hr44 rfl CL.m CL.k CL.b .nil pass0 (pa_cons (pv 7) pa_nil)) pa_nil)))))
              (pss_one (ps_ret pe_bl)) pss_nil))))))))))
      (pss_one (ps_ret (pe_and (pe_cmpR op_isBl (pe_call CT.G hr7 rfl CT.m CT.k CT.b .nil pass0 (pa_cons pe_str pa_nil)) pe_bl (nomark _)) (pe_one (pe_cmpR op_isBl (pe_call CT.G hr7 rfl CT.m CT.k CT.b .nil pass0 (pa_cons (pe_tup pa_nil) pa_nil)) pe_bl (nomark _)))))), ?_⟩
    refine ⟨_, rfl, a, _, rfl, .inl hS, _, _, rfl, _, _, rfl, _, rfl, ?_, ?_, for_range (lo := 0) (fun i σ H' => (∃ v1 v2 v3 v4 v5 v6 v7 : Option V, σ = [some (.ref a), v1, v2, v3, v4, v5, v6, v7]) ∧ Same H H')
      ⟨⟨none, none, none, none, none, none, none, rfl⟩, Same.refl _⟩ ?_ ?_⟩
    · split <;> (try split) <;> omega
    · split <;> (try split) <;> omega
    · rintro i σ H1 hi ⟨⟨v1, v2, v3, v4, v5, v6, v7, rfl⟩, s1⟩
      refine ⟨_, rfl, _, rfl, a, ns, i, ?_, s1.seq hS, hlen, fun fe g m nf => ?_⟩
      · show [V.ref a, V.int (0 + (i : Int))] ++ [] = _
        rw [Int.zero_add]
        rfl
      have s2 : Same H1 (upd H1 fe (.lst [.int g, .int m])) := same_new nf
      have hf2 : Fd (upd H1 fe (.lst [.int g, .int m])) fe := ⟨g, m, upd_same⟩
      generalize upd H1 fe (.lst [.int g, .int m]) = H2 at s2 hf2 ⊢
      have back : ∀ H', But fe H2 H' → Same H H' := fun H' b bb o e => b bb o (ne_of_none (s1 _ _ e) nf) (s2 _ _ (s1 _ _ e))
      refine ⟨_, rfl, (by decide), (by decide), for_range (lo := 0) (fun j σ H' => (∃ w3 w4 w5 w6 w7 : Option V, σ = [some (.ref a), some (.int (0 + (i : Int))), some (.ref fe), w3, w4, w5, w6, w7]) ∧ But fe H2 H' ∧ Fd H' fe)
        ⟨⟨_, _, _, _, _, rfl⟩, But.refl, hf2⟩ ?_ ?_⟩
      · rintro j σ H3 hj ⟨⟨w3, w4, w5, w6, w7, rfl⟩, b3, hf3⟩
        obtain ⟨g3, m3, e3⟩ := hf3
        refine ⟨_, rfl, _, rfl, fe, g3, m3, 3, rfl, e3, by decide, by decide, fun dd g4 m4 d0 d1 => ⟨_, _, rfl, rfl, ?_⟩⟩
        obtain ⟨k, rfl⟩ : ∃ k : Nat, dd = (k : Int) := ⟨dd.toNat, by omega⟩
        have b4 : But fe H3 (upd H3 fe (.lst [.int g4, .int m4])) := But.upd
        have hf4 : Fd (upd H3 fe (.lst [.int g4, .int m4])) fe := ⟨g4, m4, upd_same⟩
        generalize upd H3 fe (.lst [.int g4, .int m4]) = H4 at b4 hf4 ⊢
        refine ⟨fe, 1 + k, ?_, by omega, hf4, fun v5' H5 b5 hf5 t5 => ?_⟩
        · show [V.ref fe, V.int (1 + (k : Int))] ++ [] = _
          rw [show (1 + (k : Int)) = ((1 + k : Nat) : Int) by omega]
          rfl
        have t5 : Dt (Nf fe) 6 H5 16 v5' := (t5.1.nf hf4).le (by omega)
        -- spoilt once
        refine ⟨_, rfl, _, rfl, fe, v5', 16, 6, rfl, hf5, by decide, by decide, by decide, by decide, t5, fun v6' H6 b6 hf6 t6 => ?_⟩
        obtain ⟨g6, m6, e6⟩ := hf6
        refine ⟨_, rfl, fe, g6, m6, 3, rfl, e6, by decide, fun v7' H7 g7 m7 b7 e7 t7 => ⟨_, _, rfl, ?_⟩⟩
        have hf7 : Fd H7 fe := ⟨g7, m7, e7⟩
        have t7 : Dt (Nf fe) 6 H7 3 v7' := (t7.dt (by decide)).nf ⟨g6, m6, e6⟩
        have t6 : Dt (Nf fe) 7 H7 20 v6' := t6.but (Nat.le_refl _) b7
        -- the five
        refine ⟨_, rfl, _, rfl, _, rfl, _, rfl, fe, v6', 20, 7, rfl, hf7, by decide, by decide, by decide, by decide, t6, fun v8 H8 b8 hf8 t8 => ?_⟩
        refine ⟨_, rfl, _, rfl, _, rfl, fe, v6', 20, 7, rfl, hf8, by decide, by decide, by decide, by decide, t6.but (Nat.le_refl _) b8, fun v9 H9 b9 hf9 t9 => ?_⟩
        refine ⟨fe, v9, 24, 8, rfl, hf9, by decide, by decide, by decide, by decide, t9, fun v10 H10 b10 hf10 t10 => ?_⟩
        refine ⟨_, rfl, (by show 5 ≤ sizeLine; decide), fun tt nt => ?_⟩
        generalize hG : upd H10 tt (.tup _) = G
        obtain ⟨_, fG, sG, eG, ttf, _⟩ := alloc_at hG nt But.refl hf10
        have bG : But fe H2 G := b3.trans (b4.trans (b5.trans (b6.trans (b7.trans (b8.trans (b9.trans (b10.trans sG)))))))
        have five : ∀ x ∈ [v5', v6', v8, v10, v7'], Dt (Nf fe) 9 G 28 x := fun x hx => by
          simp only [List.mem_cons, List.not_mem_nil, or_false] at hx
          rcases hx with rfl | rfl | rfl | rfl | rfl
          · exact (t5.but (by decide) (b6.trans (b7.trans (b8.trans (b9.trans (b10.trans sG)))))).le (by decide)
          · exact (t6.but (by decide) (b8.trans (b9.trans (b10.trans sG)))).le (by decide)
          · exact (t8.but (by decide) (b9.trans (b10.trans sG))).le (by decide)
          · exact (t10.but (by decide) sG).le (by decide)
          · exact (t7.but (by decide) (b8.trans (b9.trans (b10.trans sG)))).le (by decide)
        refine ⟨tt, rfl, ⟨_, SqT.of eG⟩, ?_⟩
        refine for_tup (K := K) (a := tt) (xs := [v5', v6', v8, v10, v7']) (fun jj σ H' => (∃ z7 : Option V, σ = [some (.ref a), some (.int (0 + (i : Int))), some (.ref fe), some (.int (0 + (j : Int))), some v5', some v6', some v7', z7]) ∧ Same G H')
          ⟨⟨_, rfl⟩, Same.refl _⟩ (fun jj σ H' _ p => SqT.of (p.2 _ _ eG)) ?_ ?_
        · rintro jj x σ H11 hx ⟨⟨z7, rfl⟩, s11⟩
          obtain ⟨d, hd⟩ := (five x (List.mem_of_getElem? hx)).data (K := K) (by decide)
          have hd11 := hd.mono s11
          refine ⟨_, rfl, x, d, 28, rfl, hd11, by decide, fun H12 s12 => ?_⟩
          refine ⟨_, rfl, x, d, 28, 61, rfl, hd11.mono s12, by decide, by decide, by decide, fun H13 s13 => ?_⟩
          refine ⟨.bl (treeT d), .bl (treeT d), 0, rfl, by decide, ⟨rfl, rfl⟩, fun H14 s14 => ⟨true, rfl, itF rfl ?_⟩⟩
          exact ⟨⟨_, rfl⟩, s11.trans (s12.trans (s13.trans s14))⟩
        · rintro σ H11 ⟨⟨z7, rfl⟩, s11⟩
          obtain ⟨gG, mG, eGf⟩ := fG
          exact ⟨⟨_, _, _, _, _, rfl⟩, bG.trans (.of s11), ⟨gG, mG, s11 _ _ eGf⟩⟩
      · rintro σ H3 ⟨⟨w3, w4, w5, w6, w7, rfl⟩, b3, hf3⟩
        exact ⟨⟨_, _, _, _, _, _, _, rfl⟩, back H3 b3⟩
    · rintro σ H1 ⟨_, s1⟩
      refine ⟨.str "use", .str "use", 0, rfl, ⟨.str _, by show leafD _ = true; decide +kernel⟩, by decide, fun H2 s2 => ?_⟩
      refine ⟨_, _, rfl, rfl, _, rfl, ?_⟩
      refine itT (by rw [treeT_use]; rfl) ?_
      refine ⟨Nat.zero_le _, fun p np => ?_⟩
      refine ⟨.ref p, .tuple [], 1, rfl, ⟨.tup (SqT.of upd_same) .nil, .inr ⟨[], .inl rfl, by decide, fun d hd => by cases hd⟩⟩, by decide, fun H3 s3 => ?_⟩
      refine ⟨_, _, rfl, rfl, ?_⟩
      rw [treeT_nil]
      exact q _
end
end K02

set_option Elab.async false
set_option linter.all false
set_option maxRecDepth 100000
set_option maxHeartbeats 4000000
namespace K02
open PySem PySem.Spec PyProof.Rows L2
def isS (z : Str) : Value → Bool
  | .str x _ => decide (x = z)
  | _ => false
def isI (i : Int) : Value → Bool
  | .int j _ => decide (j = i)
  | _ => false
theorem isS_ok {z : Str} {v : Value} (h : isS z v = true) : ∃ t, v = .str z t := by
  cases v <;> first | exact Bool.noConfusion h | exact ⟨_, by rw [of_decide_eq_true h]⟩
theorem isI_ok {i : Int} {v : Value} (h : isI i v = true) : ∃ t, v = .int i t := by
  cases v <;> first | exact Bool.noConfusion h | exact ⟨_, by rw [of_decide_eq_true h]⟩
def chkS : List Str → List Value → Bool
  | [], [] => true
  | z :: zs, v :: vs => isS z v && chkS zs vs
  | _, _ => false
theorem chkS_ok : ∀ {zs : List Str} {vs : List Value}, chkS zs vs = true → Vals (zs.map V.str) vs ∧ vs.length = zs.length
  | [], [], _ => ⟨.nil, rfl⟩
  | z :: zs, v :: vs, h => by
    have h' := (Bool.and_eq_true_iff.mp h)
    obtain ⟨a, b⟩ := chkS_ok h'.2
    exact ⟨.cons (isS_ok h'.1) a, congrArg (· + 1) b⟩
  | [], _ :: _, h => Bool.noConfusion h
  | _ :: _, [], h => Bool.noConfusion h
def chkE : List (Str × Int) → List DictEntry → Bool
  | [], [] => true
  | z :: zs, e :: es => (isS z.1 e.key && isI z.2 e.val) && chkE zs es
  | _, _ => false
theorem chkE_ok : ∀ {zs : List (Str × Int)} {es : List DictEntry}, chkE zs es = true → Ents es zs
  | [], [], _ => .nil
  | (k, i) :: zs, e :: es, h => by
    have h' := (Bool.and_eq_true_iff.mp h)
    have h2 := (Bool.and_eq_true_iff.mp h'.1)
    exact .cons (isS_ok h2.1) (isI_ok h2.2) (chkE_ok h'.2)
  | [], _ :: _, h => Bool.noConfusion h
  | _ :: _, [], h => Bool.noConfusion h
def chkY : List Str → List DictEntry → Bool
  | [], [] => true
  | z :: zs, e :: es => isS z e.key && chkY zs es
  | _, _ => false
theorem chkY_ok : ∀ {zs : List Str} {es : List DictEntry}, chkY zs es = true → Kys es zs
  | [], [], _ => .nil
  | k :: zs, e :: es, h => by
    have h' := (Bool.and_eq_true_iff.mp h)
    exact .cons (isS_ok h'.1) (chkY_ok h'.2)
  | [], _ :: _, h => Bool.noConfusion h
  | _ :: _, [], h => Bool.noConfusion h
theorem KT.mk {K : PySem.W.Frag} {a : Addr} {od : Option Addr} {its : Array Value} {n : Nat} {sl : Array (Option Value)} {zs : List Str} (hz : zs.length ≤ 1000) (l : K.lookup a = some ⟨.type "tuple", od, .seq its n, sl⟩) (h : chkS zs its.toList = true) : KT K a (zs.map V.str) := by
  obtain ⟨a1, a2⟩ := chkS_ok h
  exact ⟨_, its, n, l, rfl, rfl, by rw [← Array.length_toList, a2]; exact Nat.le_of_lt (small1000 hz), a1⟩
theorem all_mk {l : PySem.W.OpenLaw} {w : World} {K : PySem.W.Frag} {h : Heap} {mg : Str → Option Value} {fa fF fD fP fS fNm fIt fIx fPa fMk fIk fSf fUs fMb fFi fKi fNd fTr fLf fLo fLt fLr fLc fLn fLi fLp fLy fGm fGl fGt fGs fL fA TA tI tM tG dZ dE dH dR : Addr} (X : K.In h) (G : h.Ns mainGlobals mg) (hfa : mg "law" = some (.ref fa))
    {odF anF : Option Addr} {slF : Array (Option Value)} {ocF kVF dcF pmF cdF ctF : Value}
    {odD anD : Option Addr} {slD : Array (Option Value)} {ocD kVD dcD pmD cdD ctD : Value}
    {odP anP : Option Addr} {slP : Array (Option Value)} {ocP kVP dcP pmP cdP ctP : Value}
    {odS anS : Option Addr} {slS : Array (Option Value)} {ocS kVS dcS pmS cdS ctS : Value}
    {odNm anNm : Option Addr} {slNm : Array (Option Value)} {ocNm kVNm dcNm pmNm cdNm ctNm : Value}
    {odIt anIt : Option Addr} {slIt : Array (Option Value)} {ocIt kVIt dcIt pmIt cdIt ctIt : Value}
    {odIx anIx : Option Addr} {slIx : Array (Option Value)} {ocIx kVIx dcIx pmIx cdIx ctIx : Value}
    {odPa anPa : Option Addr} {slPa : Array (Option Value)} {ocPa kVPa dcPa pmPa cdPa ctPa : Value}
    {odMk anMk : Option Addr} {slMk : Array (Option Value)} {ocMk kVMk dcMk pmMk cdMk ctMk : Value}
    {odIk anIk : Option Addr} {slIk : Array (Option Value)} {ocIk kVIk dcIk pmIk cdIk ctIk : Value}
    {odSf anSf : Option Addr} {slSf : Array (Option Value)} {ocSf kVSf dcSf pmSf cdSf ctSf : Value}
    {odUs anUs : Option Addr} {slUs : Array (Option Value)} {ocUs kVUs dcUs pmUs cdUs ctUs : Value}
    {odMb anMb : Option Addr} {slMb : Array (Option Value)} {ocMb kVMb dcMb pmMb cdMb ctMb : Value}
    {odFi anFi : Option Addr} {slFi : Array (Option Value)} {ocFi kVFi dcFi pmFi cdFi ctFi : Value}
    {odKi anKi : Option Addr} {slKi : Array (Option Value)} {ocKi kVKi dcKi pmKi cdKi ctKi : Value}
    {odNd anNd : Option Addr} {slNd : Array (Option Value)} {ocNd kVNd dcNd pmNd cdNd ctNd : Value}
    {odTr anTr : Option Addr} {slTr : Array (Option Value)} {ocTr kVTr dcTr pmTr cdTr ctTr : Value}
    {odLf anLf : Option Addr} {slLf : Array (Option Value)} {ocLf kVLf dcLf pmLf cdLf ctLf : Value}
    {odLo anLo : Option Addr} {slLo : Array (Option Value)} {ocLo kVLo dcLo pmLo cdLo ctLo : Value}
    {odLt anLt : Option Addr} {slLt : Array (Option Value)} {ocLt kVLt dcLt pmLt cdLt ctLt : Value}
    {odLr anLr : Option Addr} {slLr : Array (Option Value)} {ocLr kVLr dcLr pmLr cdLr ctLr : Value}
    {odLc anLc : Option Addr} {slLc : Array (Option Value)} {ocLc kVLc dcLc pmLc cdLc ctLc : Value}
    {odLn anLn : Option Addr} {slLn : Array (Option Value)} {ocLn kVLn dcLn pmLn cdLn ctLn : Value}
    {odLi anLi : Option Addr} {slLi : Array (Option Value)} {ocLi kVLi dcLi pmLi cdLi ctLi : Value}
    {odLp anLp : Option Addr} {slLp : Array (Option Value)} {ocLp kVLp dcLp pmLp cdLp ctLp : Value}
    {odLy anLy : Option Addr} {slLy : Array (Option Value)} {ocLy kVLy dcLy pmLy cdLy ctLy : Value}
    {odGm anGm : Option Addr} {slGm : Array (Option Value)} {ocGm kVGm dcGm pmGm cdGm ctGm : Value}
    {odGl anGl : Option Addr} {slGl : Array (Option Value)} {ocGl kVGl dcGl pmGl cdGl ctGl : Value}
    {odGt anGt : Option Addr} {slGt : Array (Option Value)} {ocGt kVGt dcGt pmGt cdGt ctGt : Value}
    {odGs anGs : Option Addr} {slGs : Array (Option Value)} {ocGs kVGs dcGs pmGs cdGs ctGs : Value}
    {odL anL : Option Addr} {slL : Array (Option Value)} {ocL kVL dcL pmL cdL ctL : Value}
    {odA anA : Option Addr} {slA : Array (Option Value)} {ocA kVA dcA pmA cdA ctA : Value}
    {ocT : Value} {odT : Option Addr} {tkT : Tok} {nT : Nat} {slT : Array (Option Value)}
    {odtI : Option Addr} {ntI : Nat} {sltI : Array (Option Value)} {itsI : Array Value}
    {odtM : Option Addr} {ntM : Nat} {sltM : Array (Option Value)} {itsM : Array Value}
    {odtG : Option Addr} {ntG : Nat} {sltG : Array (Option Value)} {itsG : Array Value}
    {esZ : Array DictEntry} {ndZ : Nat}
    {esE : Array DictEntry} {ndE : Nat}
    {esH : Array DictEntry} {ndH : Nat}
    {esR : Array DictEntry} {ndR : Nat}
    {tkL tkM : Tok}
    (aF : PySem.W.nsIn K mainGlobals "_law_feed_of" = some (some (.ref fF)))
    (lF : K.lookup fF = some ⟨ocF, odF, .func (PySem.W.fnOf "_law_feed_of" "_law_feed_of" (defArgs sFeed) (defBody sFeed) (defScope sFeed) .none kVF dcF pmF anF cdF ctF), slF⟩)
    (zF : PySem.W.codeIn K cdF "_law_feed_of" = true)
    (yF : PySem.W.keepIn K (.ref fF) = true)
    (aD : PySem.W.nsIn K mainGlobals "_law_draw" = some (some (.ref fD)))
    (lD : K.lookup fD = some ⟨ocD, odD, .func (PySem.W.fnOf "_law_draw" "_law_draw" (defArgs sDraw) (defBody sDraw) (defScope sDraw) .none kVD dcD pmD anD cdD ctD), slD⟩)
    (zD : PySem.W.codeIn K cdD "_law_draw" = true)
    (yD : PySem.W.keepIn K (.ref fD) = true)
    (aP : PySem.W.nsIn K mainGlobals "_law_pick" = some (some (.ref fP)))
    (lP : K.lookup fP = some ⟨ocP, odP, .func (PySem.W.fnOf "_law_pick" "_law_pick" (defArgs sPick) (defBody sPick) (defScope sPick) .none kVP dcP pmP anP cdP ctP), slP⟩)
    (zP : PySem.W.codeIn K cdP "_law_pick" = true)
    (yP : PySem.W.keepIn K (.ref fP) = true)
    (aS : PySem.W.nsIn K mainGlobals "_law_same" = some (some (.ref fS)))
    (lS : K.lookup fS = some ⟨ocS, odS, .func (PySem.W.fnOf "_law_same" "_law_same" (defArgs sSame) (defBody sSame) (defScope sSame) .none kVS dcS pmS anS cdS ctS), slS⟩)
    (zS : PySem.W.codeIn K cdS "_law_same" = true)
    (yS : PySem.W.keepIn K (.ref fS) = true)
    (aNm : PySem.W.nsIn K mainGlobals "is_name" = some (some (.ref fNm)))
    (lNm : K.lookup fNm = some ⟨ocNm, odNm, .func (PySem.W.fnOf "is_name" "is_name" (defArgs sName) (defBody sName) (defScope sName) .none kVNm dcNm pmNm anNm cdNm ctNm), slNm⟩)
    (zNm : PySem.W.codeIn K cdNm "is_name" = true)
    (yNm : PySem.W.keepIn K (.ref fNm) = true)
    (aIt : PySem.W.nsIn K mainGlobals "_is_integer" = some (some (.ref fIt)))
    (lIt : K.lookup fIt = some ⟨ocIt, odIt, .func (PySem.W.fnOf "_is_integer" "_is_integer" (defArgs sInteger) (defBody sInteger) (defScope sInteger) .none kVIt dcIt pmIt anIt cdIt ctIt), slIt⟩)
    (zIt : PySem.W.codeIn K cdIt "_is_integer" = true)
    (yIt : PySem.W.keepIn K (.ref fIt) = true)
    (aIx : PySem.W.nsIn K mainGlobals "is_index" = some (some (.ref fIx)))
    (lIx : K.lookup fIx = some ⟨ocIx, odIx, .func (PySem.W.fnOf "is_index" "is_index" (defArgs sIndex) (defBody sIndex) (defScope sIndex) .none kVIx dcIx pmIx anIx cdIx ctIx), slIx⟩)
    (zIx : PySem.W.codeIn K cdIx "is_index" = true)
    (yIx : PySem.W.keepIn K (.ref fIx) = true)
    (aPa : PySem.W.nsIn K mainGlobals "is_path" = some (some (.ref fPa)))
    (lPa : K.lookup fPa = some ⟨ocPa, odPa, .func (PySem.W.fnOf "is_path" "is_path" (defArgs sPath) (defBody sPath) (defScope sPath) .none kVPa dcPa pmPa anPa cdPa ctPa), slPa⟩)
    (zPa : PySem.W.codeIn K cdPa "is_path" = true)
    (yPa : PySem.W.keepIn K (.ref fPa) = true)
    (aMk : PySem.W.nsIn K mainGlobals "_is_mark" = some (some (.ref fMk)))
    (lMk : K.lookup fMk = some ⟨ocMk, odMk, .func (PySem.W.fnOf "_is_mark" "_is_mark" (defArgs sMark) (defBody sMark) (defScope sMark) .none kVMk dcMk pmMk anMk cdMk ctMk), slMk⟩)
    (zMk : PySem.W.codeIn K cdMk "_is_mark" = true)
    (yMk : PySem.W.keepIn K (.ref fMk) = true)
    (aIk : PySem.W.nsIn K mainGlobals "_is_ink" = some (some (.ref fIk)))
    (lIk : K.lookup fIk = some ⟨ocIk, odIk, .func (PySem.W.fnOf "_is_ink" "_is_ink" (defArgs sInk) (defBody sInk) (defScope sInk) .none kVIk dcIk pmIk anIk cdIk ctIk), slIk⟩)
    (zIk : PySem.W.codeIn K cdIk "_is_ink" = true)
    (yIk : PySem.W.keepIn K (.ref fIk) = true)
    (aSf : PySem.W.nsIn K mainGlobals "_single_fits" = some (some (.ref fSf)))
    (lSf : K.lookup fSf = some ⟨ocSf, odSf, .func (PySem.W.fnOf "_single_fits" "_single_fits" (defArgs sSingle) (defBody sSingle) (defScope sSingle) .none kVSf dcSf pmSf anSf cdSf ctSf), slSf⟩)
    (zSf : PySem.W.codeIn K cdSf "_single_fits" = true)
    (ySf : PySem.W.keepIn K (.ref fSf) = true)
    (aUs : PySem.W.nsIn K mainGlobals "_is_use" = some (some (.ref fUs)))
    (lUs : K.lookup fUs = some ⟨ocUs, odUs, .func (PySem.W.fnOf "_is_use" "_is_use" (defArgs sUse) (defBody sUse) (defScope sUse) .none kVUs dcUs pmUs anUs cdUs ctUs), slUs⟩)
    (zUs : PySem.W.codeIn K cdUs "_is_use" = true)
    (yUs : PySem.W.keepIn K (.ref fUs) = true)
    (aMb : PySem.W.nsIn K mainGlobals "_may_be_made_of" = some (some (.ref fMb)))
    (lMb : K.lookup fMb = some ⟨ocMb, odMb, .func (PySem.W.fnOf "_may_be_made_of" "_may_be_made_of" (defArgs sMadeOf) (defBody sMadeOf) (defScope sMadeOf) .none kVMb dcMb pmMb anMb cdMb ctMb), slMb⟩)
    (zMb : PySem.W.codeIn K cdMb "_may_be_made_of" = true)
    (yMb : PySem.W.keepIn K (.ref fMb) = true)
    (aFi : PySem.W.nsIn K mainGlobals "_items_fit" = some (some (.ref fFi)))
    (lFi : K.lookup fFi = some ⟨ocFi, odFi, .func (PySem.W.fnOf "_items_fit" "_items_fit" (defArgs sFits) (defBody sFits) (defScope sFits) .none kVFi dcFi pmFi anFi cdFi ctFi), slFi⟩)
    (zFi : PySem.W.codeIn K cdFi "_items_fit" = true)
    (yFi : PySem.W.keepIn K (.ref fFi) = true)
    (aKi : PySem.W.nsIn K mainGlobals "trees_of" = some (some (.ref fKi)))
    (lKi : K.lookup fKi = some ⟨ocKi, odKi, .func (PySem.W.fnOf "trees_of" "trees_of" (defArgs sKids) (defBody sKids) (defScope sKids) .none kVKi dcKi pmKi anKi cdKi ctKi), slKi⟩)
    (zKi : PySem.W.codeIn K cdKi "trees_of" = true)
    (yKi : PySem.W.keepIn K (.ref fKi) = true)
    (aNd : PySem.W.nsIn K mainGlobals "_is_node" = some (some (.ref fNd)))
    (lNd : K.lookup fNd = some ⟨ocNd, odNd, .func (PySem.W.fnOf "_is_node" "_is_node" (defArgs sNode) (defBody sNode) (defScope sNode) .none kVNd dcNd pmNd anNd cdNd ctNd), slNd⟩)
    (zNd : PySem.W.codeIn K cdNd "_is_node" = true)
    (yNd : PySem.W.keepIn K (.ref fNd) = true)
    (aTr : PySem.W.nsIn K mainGlobals "is_tree" = some (some (.ref fTr)))
    (lTr : K.lookup fTr = some ⟨ocTr, odTr, .func (PySem.W.fnOf "is_tree" "is_tree" (defArgs sTree) (defBody sTree) (defScope sTree) .none kVTr dcTr pmTr anTr cdTr ctTr), slTr⟩)
    (zTr : PySem.W.codeIn K cdTr "is_tree" = true)
    (yTr : PySem.W.keepIn K (.ref fTr) = true)
    (aLf : PySem.W.nsIn K mainGlobals "_law_first" = some (some (.ref fLf)))
    (lLf : K.lookup fLf = some ⟨ocLf, odLf, .func (PySem.W.fnOf "_law_first" "_law_first" (defArgs sFirst) (defBody sFirst) (defScope sFirst) .none kVLf dcLf pmLf anLf cdLf ctLf), slLf⟩)
    (zLf : PySem.W.codeIn K cdLf "_law_first" = true)
    (yLf : PySem.W.keepIn K (.ref fLf) = true)
    (aLo : PySem.W.nsIn K mainGlobals "_law_ones" = some (some (.ref fLo)))
    (lLo : K.lookup fLo = some ⟨ocLo, odLo, .func (PySem.W.fnOf "_law_ones" "_law_ones" (defArgs sOnes) (defBody sOnes) (defScope sOnes) .none kVLo dcLo pmLo anLo cdLo ctLo), slLo⟩)
    (zLo : PySem.W.codeIn K cdLo "_law_ones" = true)
    (yLo : PySem.W.keepIn K (.ref fLo) = true)
    (aLt : PySem.W.nsIn K mainGlobals "_law_twos" = some (some (.ref fLt)))
    (lLt : K.lookup fLt = some ⟨ocLt, odLt, .func (PySem.W.fnOf "_law_twos" "_law_twos" (defArgs sTwos) (defBody sTwos) (defScope sTwos) .none kVLt dcLt pmLt anLt cdLt ctLt), slLt⟩)
    (zLt : PySem.W.codeIn K cdLt "_law_twos" = true)
    (yLt : PySem.W.keepIn K (.ref fLt) = true)
    (aLr : PySem.W.nsIn K mainGlobals "_law_reserved" = some (some (.ref fLr)))
    (lLr : K.lookup fLr = some ⟨ocLr, odLr, .func (PySem.W.fnOf "_law_reserved" "_law_reserved" (defArgs sReserved) (defBody sReserved) (defScope sReserved) .none kVLr dcLr pmLr anLr cdLr ctLr), slLr⟩)
    (zLr : PySem.W.codeIn K cdLr "_law_reserved" = true)
    (yLr : PySem.W.keepIn K (.ref fLr) = true)
    (aLc : PySem.W.nsIn K mainGlobals "_law_is_count" = some (some (.ref fLc)))
    (lLc : K.lookup fLc = some ⟨ocLc, odLc, .func (PySem.W.fnOf "_law_is_count" "_law_is_count" (defArgs sCount) (defBody sCount) (defScope sCount) .none kVLc dcLc pmLc anLc cdLc ctLc), slLc⟩)
    (zLc : PySem.W.codeIn K cdLc "_law_is_count" = true)
    (yLc : PySem.W.keepIn K (.ref fLc) = true)
    (aLn : PySem.W.nsIn K mainGlobals "_law_is_name" = some (some (.ref fLn)))
    (lLn : K.lookup fLn = some ⟨ocLn, odLn, .func (PySem.W.fnOf "_law_is_name" "_law_is_name" (defArgs sLName) (defBody sLName) (defScope sLName) .none kVLn dcLn pmLn anLn cdLn ctLn), slLn⟩)
    (zLn : PySem.W.codeIn K cdLn "_law_is_name" = true)
    (yLn : PySem.W.keepIn K (.ref fLn) = true)
    (aLi : PySem.W.nsIn K mainGlobals "_law_is_ink" = some (some (.ref fLi)))
    (lLi : K.lookup fLi = some ⟨ocLi, odLi, .func (PySem.W.fnOf "_law_is_ink" "_law_is_ink" (defArgs sLInk) (defBody sLInk) (defScope sLInk) .none kVLi dcLi pmLi anLi cdLi ctLi), slLi⟩)
    (zLi : PySem.W.codeIn K cdLi "_law_is_ink" = true)
    (yLi : PySem.W.keepIn K (.ref fLi) = true)
    (aLp : PySem.W.nsIn K mainGlobals "_law_is_plain" = some (some (.ref fLp)))
    (lLp : K.lookup fLp = some ⟨ocLp, odLp, .func (PySem.W.fnOf "_law_is_plain" "_law_is_plain" (defArgs sPlain) (defBody sPlain) (defScope sPlain) .none kVLp dcLp pmLp anLp cdLp ctLp), slLp⟩)
    (zLp : PySem.W.codeIn K cdLp "_law_is_plain" = true)
    (yLp : PySem.W.keepIn K (.ref fLp) = true)
    (aLy : PySem.W.nsIn K mainGlobals "_law_is_tree" = some (some (.ref fLy)))
    (lLy : K.lookup fLy = some ⟨ocLy, odLy, .func (PySem.W.fnOf "_law_is_tree" "_law_is_tree" (defArgs sLTree) (defBody sLTree) (defScope sLTree) .none kVLy dcLy pmLy anLy cdLy ctLy), slLy⟩)
    (zLy : PySem.W.codeIn K cdLy "_law_is_tree" = true)
    (yLy : PySem.W.keepIn K (.ref fLy) = true)
    (aGm : PySem.W.nsIn K mainGlobals "_law_mark" = some (some (.ref fGm)))
    (lGm : K.lookup fGm = some ⟨ocGm, odGm, .func (PySem.W.fnOf "_law_mark" "_law_mark" (defArgs sMk) (defBody sMk) (defScope sMk) .none kVGm dcGm pmGm anGm cdGm ctGm), slGm⟩)
    (zGm : PySem.W.codeIn K cdGm "_law_mark" = true)
    (yGm : PySem.W.keepIn K (.ref fGm) = true)
    (aGl : PySem.W.nsIn K mainGlobals "_law_literal" = some (some (.ref fGl)))
    (lGl : K.lookup fGl = some ⟨ocGl, odGl, .func (PySem.W.fnOf "_law_literal" "_law_literal" (defArgs sLit) (defBody sLit) (defScope sLit) .none kVGl dcGl pmGl anGl cdGl ctGl), slGl⟩)
    (zGl : PySem.W.codeIn K cdGl "_law_literal" = true)
    (yGl : PySem.W.keepIn K (.ref fGl) = true)
    (aGt : PySem.W.nsIn K mainGlobals "_law_inked_tree" = some (some (.ref fGt)))
    (lGt : K.lookup fGt = some ⟨ocGt, odGt, .func (PySem.W.fnOf "_law_inked_tree" "_law_inked_tree" (defArgs sIT) (defBody sIT) (defScope sIT) .none kVGt dcGt pmGt anGt cdGt ctGt), slGt⟩)
    (zGt : PySem.W.codeIn K cdGt "_law_inked_tree" = true)
    (yGt : PySem.W.keepIn K (.ref fGt) = true)
    (aGs : PySem.W.nsIn K mainGlobals "_law_spoilt" = some (some (.ref fGs)))
    (lGs : K.lookup fGs = some ⟨ocGs, odGs, .func (PySem.W.fnOf "_law_spoilt" "_law_spoilt" (defArgs sSpo) (defBody sSpo) (defScope sSpo) .none kVGs dcGs pmGs anGs cdGs ctGs), slGs⟩)
    (zGs : PySem.W.codeIn K cdGs "_law_spoilt" = true)
    (yGs : PySem.W.keepIn K (.ref fGs) = true)
    (aL : PySem.W.nsIn K mainGlobals "law" = some (some (.ref fL)))
    (lL : K.lookup fL = some ⟨ocL, odL, .func (PySem.W.fnOf "law" "law" (defArgs sLaw) (defBody sLaw) (defScope sLaw) .none kVL dcL pmL anL cdL ctL), slL⟩)
    (zL : PySem.W.codeIn K cdL "law" = true)
    (yL : PySem.W.keepIn K (.ref fL) = true)
    (aA : PySem.W.nsIn K mainGlobals "_law_any_value" = some (some (.ref fA)))
    (lA : K.lookup fA = some ⟨ocA, odA, .func (PySem.W.fnOf "_law_any_value" "_law_any_value" (defArgs sAny) (defBody sAny) (defScope sAny) (.ref TA) kVA dcA pmA anA cdA ctA), slA⟩)
    (zA : PySem.W.codeIn K cdA "_law_any_value" = true)
    (yA : PySem.W.keepIn K (.ref fA) = true)
    (lT : K.lookup TA = some ⟨ocT, odT, .seq ([Value.int 3 tkT] : List Value).toArray nT, slT⟩)
    (gtI : PySem.W.nsIn K mainGlobals "LITERALS" = some (some (.ref tI)))
    (ltI : K.lookup tI = some ⟨.type "tuple", odtI, .seq itsI ntI, sltI⟩)
    (vtI : chkS LITl itsI.toList = true)
    (gtM : PySem.W.nsIn K mainGlobals "MADE_OF" = some (some (.ref tM)))
    (ltM : K.lookup tM = some ⟨.type "tuple", odtM, .seq itsM ntM, sltM⟩)
    (vtM : chkS MADEl itsM.toList = true)
    (gtG : PySem.W.nsIn K mainGlobals "SINGLE" = some (some (.ref tG)))
    (ltG : K.lookup tG = some ⟨.type "tuple", odtG, .seq itsG ntG, sltG⟩)
    (vtG : chkS SINGl itsG.toList = true)
    (gdZ : PySem.W.nsIn K mainGlobals "SIZES" = some (some (.ref dZ)))
    (ldZ : K.lookup dZ = some ⟨.type "dict", none, .dict esZ ndZ, #[]⟩)
    (kdZ : PySem.W.KeysLit w.params esZ.toList)
    (vdZ : chkE SZl esZ.toList = true)
    (sdZ : (dZ == sysModules) = false)
    (gdE : PySem.W.nsIn K mainGlobals "LEAST" = some (some (.ref dE)))
    (ldE : K.lookup dE = some ⟨.type "dict", none, .dict esE ndE, #[]⟩)
    (kdE : PySem.W.KeysLit w.params esE.toList)
    (vdE : chkE LSl esE.toList = true)
    (sdE : (dE == sysModules) = false)
    (gdH : PySem.W.nsIn K mainGlobals "FIRST_TREE" = some (some (.ref dH)))
    (ldH : K.lookup dH = some ⟨.type "dict", none, .dict esH ndH, #[]⟩)
    (kdH : PySem.W.KeysLit w.params esH.toList)
    (vdH : chkE FTl esH.toList = true)
    (sdH : (dH == sysModules) = false)
    (gdR : PySem.W.nsIn K mainGlobals "RESERVED" = some (some (.ref dR)))
    (ldR : K.lookup dR = some ⟨.type "dict", none, .dict esR ndR, #[]⟩)
    (kdR : PySem.W.KeysLit w.params esR.toList)
    (vdR : chkY RESl esR.toList = true)
    (sdR : (dR == sysModules) = false)
    (gL : PySem.W.nsIn K mainGlobals "LONGEST_NAME" = some (some (.int 8 tkL)))
    (gM : PySem.W.nsIn K mainGlobals "MOST_PARAMETERS" = some (some (.int 4 tkM)))
    (b_isinstance : PySem.W.nsIn K mainGlobals "isinstance" = some none)
    (b_tuple : PySem.W.nsIn K mainGlobals "tuple" = some none)
    (b_list : PySem.W.nsIn K mainGlobals "list" = some none)
    (b_bool : PySem.W.nsIn K mainGlobals "bool" = some none)
    (b_int : PySem.W.nsIn K mainGlobals "int" = some none)
    (b_str : PySem.W.nsIn K mainGlobals "str" = some none)
    (b_len : PySem.W.nsIn K mainGlobals "len" = some none)
    (b_all : PySem.W.nsIn K mainGlobals "all" = some none)
    (b_zip : PySem.W.nsIn K mainGlobals "zip" = some none)
    (b_range : PySem.W.nsIn K mainGlobals "range" = some none)
    (b_max : PySem.W.nsIn K mainGlobals "max" = some none)
    (b_min : PySem.W.nsIn K mainGlobals "min" = some none)
    : ∃ fd : FuncData, (∀ (s : Shared) (v : Value), BindsTo s fd ⟨[v], []⟩ [("_law_script", v)]) ∧ ∀ base : Heap, K.In base → base.Ns mainGlobals mg → FnOk l.prog w K mg base CX0 47 fa fd ["_law_script"] (spLaw K) := by
  have e := hfa.symm.trans (PySem.W.mg_of X G aL)
  cases e
  have FF := fun_mk (st := sFeed) lF zF yF
  have BF := FF.binds (ps := ["_law_script", "_law_k"]) (fun _ _ _ _ _ _ us hl => match us, hl with | [_, _], _ => rfl)
  have mF := PySem.W.mg_of X G aF
  have FD := fun_mk (st := sDraw) lD zD yD
  have BD := FD.binds (ps := ["_law_feed", "_law_many"]) (fun _ _ _ _ _ _ us hl => match us, hl with | [_, _], _ => rfl)
  have mD := PySem.W.mg_of X G aD
  have FP := fun_mk (st := sPick) lP zP yP
  have BP := FP.binds (ps := ["_law_feed", "_law_items"]) (fun _ _ _ _ _ _ us hl => match us, hl with | [_, _], _ => rfl)
  have mP := PySem.W.mg_of X G aP
  have FS := fun_mk (st := sSame) lS zS yS
  have BS := FS.binds (ps := ["_law_found", "_law_due"]) (fun _ _ _ _ _ _ us hl => match us, hl with | [_, _], _ => rfl)
  have mS := PySem.W.mg_of X G aS
  have FNm := fun_mk (st := sName) lNm zNm yNm
  have BNm := FNm.binds (ps := ["thing"]) (fun _ _ _ _ _ _ us hl => match us, hl with | [_], _ => rfl)
  have mNm := PySem.W.mg_of X G aNm
  have FIt := fun_mk (st := sInteger) lIt zIt yIt
  have BIt := FIt.binds (ps := ["thing"]) (fun _ _ _ _ _ _ us hl => match us, hl with | [_], _ => rfl)
  have mIt := PySem.W.mg_of X G aIt
  have FIx := fun_mk (st := sIndex) lIx zIx yIx
  have BIx := FIx.binds (ps := ["thing"]) (fun _ _ _ _ _ _ us hl => match us, hl with | [_], _ => rfl)
  have mIx := PySem.W.mg_of X G aIx
  have FPa := fun_mk (st := sPath) lPa zPa yPa
  have BPa := FPa.binds (ps := ["thing"]) (fun _ _ _ _ _ _ us hl => match us, hl with | [_], _ => rfl)
  have mPa := PySem.W.mg_of X G aPa
  have FMk := fun_mk (st := sMark) lMk zMk yMk
  have BMk := FMk.binds (ps := ["thing"]) (fun _ _ _ _ _ _ us hl => match us, hl with | [_], _ => rfl)
  have mMk := PySem.W.mg_of X G aMk
  have FIk := fun_mk (st := sInk) lIk zIk yIk
  have BIk := FIk.binds (ps := ["thing"]) (fun _ _ _ _ _ _ us hl => match us, hl with | [_], _ => rfl)
  have mIk := PySem.W.mg_of X G aIk
  have FSf := fun_mk (st := sSingle) lSf zSf ySf
  have BSf := FSf.binds (ps := ["head", "item"]) (fun _ _ _ _ _ _ us hl => match us, hl with | [_, _], _ => rfl)
  have mSf := PySem.W.mg_of X G aSf
  have FUs := fun_mk (st := sUse) lUs zUs yUs
  have BUs := FUs.binds (ps := ["items"]) (fun _ _ _ _ _ _ us hl => match us, hl with | [_], _ => rfl)
  have mUs := PySem.W.mg_of X G aUs
  have FMb := fun_mk (st := sMadeOf) lMb zMb yMb
  have BMb := FMb.binds (ps := ["thing"]) (fun _ _ _ _ _ _ us hl => match us, hl with | [_], _ => rfl)
  have mMb := PySem.W.mg_of X G aMb
  have FFi := fun_mk (st := sFits) lFi zFi yFi
  have BFi := FFi.binds (ps := ["head", "items"]) (fun _ _ _ _ _ _ us hl => match us, hl with | [_, _], _ => rfl)
  have mFi := PySem.W.mg_of X G aFi
  have FKi := fun_mk (st := sKids) lKi zKi yKi
  have BKi := FKi.binds (ps := ["node"]) (fun _ _ _ _ _ _ us hl => match us, hl with | [_], _ => rfl)
  have mKi := PySem.W.mg_of X G aKi
  have FNd := fun_mk (st := sNode) lNd zNd yNd
  have BNd := FNd.binds (ps := ["thing"]) (fun _ _ _ _ _ _ us hl => match us, hl with | [_], _ => rfl)
  have mNd := PySem.W.mg_of X G aNd
  have FTr := fun_mk (st := sTree) lTr zTr yTr
  have BTr := FTr.binds (ps := ["thing"]) (fun _ _ _ _ _ _ us hl => match us, hl with | [_], _ => rfl)
  have mTr := PySem.W.mg_of X G aTr
  have FLf := fun_mk (st := sFirst) lLf zLf yLf
  have BLf := FLf.binds (ps := ["_law_head"]) (fun _ _ _ _ _ _ us hl => match us, hl with | [_], _ => rfl)
  have mLf := PySem.W.mg_of X G aLf
  have FLo := fun_mk (st := sOnes) lLo zLo yLo
  have BLo := FLo.binds (ps := []) (fun _ _ _ _ _ _ us hl => match us, hl with | [], _ => rfl)
  have mLo := PySem.W.mg_of X G aLo
  have FLt := fun_mk (st := sTwos) lLt zLt yLt
  have BLt := FLt.binds (ps := []) (fun _ _ _ _ _ _ us hl => match us, hl with | [], _ => rfl)
  have mLt := PySem.W.mg_of X G aLt
  have FLr := fun_mk (st := sReserved) lLr zLr yLr
  have BLr := FLr.binds (ps := []) (fun _ _ _ _ _ _ us hl => match us, hl with | [], _ => rfl)
  have mLr := PySem.W.mg_of X G aLr
  have FLc := fun_mk (st := sCount) lLc zLc yLc
  have BLc := FLc.binds (ps := ["_law_thing", "_law_least"]) (fun _ _ _ _ _ _ us hl => match us, hl with | [_, _], _ => rfl)
  have mLc := PySem.W.mg_of X G aLc
  have FLn := fun_mk (st := sLName) lLn zLn yLn
  have BLn := FLn.binds (ps := ["_law_thing"]) (fun _ _ _ _ _ _ us hl => match us, hl with | [_], _ => rfl)
  have mLn := PySem.W.mg_of X G aLn
  have FLi := fun_mk (st := sLInk) lLi zLi yLi
  have BLi := FLi.binds (ps := ["_law_thing"]) (fun _ _ _ _ _ _ us hl => match us, hl with | [_], _ => rfl)
  have mLi := PySem.W.mg_of X G aLi
  have FLp := fun_mk (st := sPlain) lLp zLp yLp
  have BLp := FLp.binds (ps := ["_law_head", "_law_items"]) (fun _ _ _ _ _ _ us hl => match us, hl with | [_, _], _ => rfl)
  have mLp := PySem.W.mg_of X G aLp
  have FLy := fun_mk (st := sLTree) lLy zLy yLy
  have BLy := FLy.binds (ps := ["_law_thing"]) (fun _ _ _ _ _ _ us hl => match us, hl with | [_], _ => rfl)
  have mLy := PySem.W.mg_of X G aLy
  have FGm := fun_mk (st := sMk) lGm zGm yGm
  have BGm := FGm.binds (ps := ["_law_feed"]) (fun _ _ _ _ _ _ us hl => match us, hl with | [_], _ => rfl)
  have mGm := PySem.W.mg_of X G aGm
  have FGl := fun_mk (st := sLit) lGl zGl yGl
  have BGl := FGl.binds (ps := ["_law_feed"]) (fun _ _ _ _ _ _ us hl => match us, hl with | [_], _ => rfl)
  have mGl := PySem.W.mg_of X G aGl
  have FGt := fun_mk (st := sIT) lGt zGt yGt
  have BGt := FGt.binds (ps := ["_law_feed", "_law_deep"]) (fun _ _ _ _ _ _ us hl => match us, hl with | [_, _], _ => rfl)
  have mGt := PySem.W.mg_of X G aGt
  have FGs := fun_mk (st := sSpo) lGs zGs yGs
  have BGs := FGs.binds (ps := ["_law_feed", "_law_thing"]) (fun _ _ _ _ _ _ us hl => match us, hl with | [_, _], _ => rfl)
  have mGs := PySem.W.mg_of X G aGs
  have FL := fun_mk (st := sLaw) lL zL yL
  have mL := PySem.W.mg_of X G aL
  have FA : FunD K "_law_any_value" "_law_any_value" (defArgs sAny) (defBody sAny) (defScope sAny) [.int 3] [] fA (PySem.W.fnOf "_law_any_value" "_law_any_value" (defArgs sAny) (defBody sAny) (defScope sAny) (.ref TA) kVA dcA pmA anA cdA ctA) := ⟨⟨_, _, _, _, _, _, _, _, _, _, rfl, lA, zA, .inr ⟨by simp, TA, _, _, _, rfl, lT, rfl, .cons ⟨_, rfl⟩ .nil⟩, .inl rfl⟩, yA⟩
  have mA := PySem.W.mg_of X G aA
  have m_isinstance := PySem.W.mg_none_of X G b_isinstance
  have m_tuple := PySem.W.mg_none_of X G b_tuple
  have m_list := PySem.W.mg_none_of X G b_list
  have m_bool := PySem.W.mg_none_of X G b_bool
  have m_int := PySem.W.mg_none_of X G b_int
  have m_str := PySem.W.mg_none_of X G b_str
  have m_len := PySem.W.mg_none_of X G b_len
  have m_all := PySem.W.mg_none_of X G b_all
  have m_zip := PySem.W.mg_none_of X G b_zip
  have m_range := PySem.W.mg_none_of X G b_range
  have m_max := PySem.W.mg_none_of X G b_max
  have m_min := PySem.W.mg_none_of X G b_min
  have BA2 : Binds K (PySem.W.fnOf "_law_any_value" "_law_any_value" (defArgs sAny) (defBody sAny) (defScope sAny) (.ref TA) kVA dcA pmA anA cdA ctA) ["_law_feed", "_law_deep"] [] := by
    obtain ⟨ds, v, hb⟩ := FA.binds1 (ps := ["_law_feed", "_law_deep"]) 2 1 (by simp) rfl (fun T kV doc pm an cdv ct us its l1 l2 => match us, l1, its, l2 with | [_, _], _, [_], _ => ⟨_, rfl, rfl⟩)
    cases v
    exact hb
  obtain ⟨dv, vdv, BA1⟩ := FA.binds1 (ps := ["_law_feed", "_law_deep"]) 1 0 (by simp) rfl (fun T kV doc pm an cdv ct us its l1 l2 => match us, l1, its, l2 with | [_], _, [_], _ => ⟨_, rfl, rfl⟩)
  have BB : BI mg := ⟨m_isinstance, m_tuple, m_list, m_bool, m_int, m_str, m_len, m_all⟩
  have CNc : CN K w mg dR esR ndR tkL := ⟨PySem.W.mg_of X G gdR, ⟨⟨ldR, kdR, sdR⟩, chkY_ok vdR⟩, PySem.W.mg_of X G gL⟩
  have CHh : CH K w mg dZ dE tM tG esZ esE ndZ ndE tkM := ⟨PySem.W.mg_of X G gdZ, ⟨⟨ldZ, kdZ, sdZ⟩, chkE_ok vdZ⟩, PySem.W.mg_of X G gdE, ⟨⟨ldE, kdE, sdE⟩, chkE_ok vdE⟩, PySem.W.mg_of X G gtM, KT.mk (by decide) ltM vtM, PySem.W.mg_of X G gtG, KT.mk (by decide) ltG vtG, PySem.W.mg_of X G gM⟩
  have kI := KT.mk (zs := LITl) (by decide) ltI vtI
  refine ⟨PySem.W.fnOf "law" "law" (defArgs sLaw) (defBody sLaw) (defScope sLaw) .none kVL dcL pmL anL cdL ctL, fun s v => .of_eq rfl, fun base _ _ => ?_⟩
  have CF : Cal l.prog w K mg base "_law_feed_of" 1 fF _ ["_law_script", "_law_k"] [] (spFeed K) := ⟨ok_feed FF m_len, mF, yF, BF⟩
  have CD : Cal l.prog w K mg base "_law_draw" 1 fD _ ["_law_feed", "_law_many"] [] spDraw := ⟨ok_draw FD, mD, yD, BD⟩
  have CP : Cal l.prog w K mg base "_law_pick" 2 fP _ ["_law_feed", "_law_items"] [] spPick := ⟨ok_pick FP CD.G CD.b CD.k CD.m m_len, mP, yP, BP⟩
  have CS : Cal l.prog w K mg base "_law_same" 1 fS _ ["_law_found", "_law_due"] [] (spSame 1) := ⟨ok_same FS ⟨m_isinstance, m_tuple, m_list, m_bool, m_len, m_all, m_zip⟩ BS mS 1, mS, yS, BS⟩
  have CNm : Cal l.prog w K mg base "is_name" 1 fNm _ ["thing"] [] (spP K nameD) := ⟨ok_name FNm BB CNc, mNm, yNm, BNm⟩
  have CIt : Cal l.prog w K mg base "_is_integer" 1 fIt _ ["thing"] [] (spP K intD) := ⟨ok_integer FIt BB, mIt, yIt, BIt⟩
  have CIx : Cal l.prog w K mg base "is_index" 2 fIx _ ["thing"] [] (spP K idxD) := ⟨ok_index FIx BB CIt.G CIt.m CIt.k CIt.b, mIx, yIx, BIx⟩
  have CPa : Cal l.prog w K mg base "is_path" 3 fPa _ ["thing"] [] (spP K pathD) := ⟨ok_path FPa BB CIx, mPa, yPa, BPa⟩
  have CMk : Cal l.prog w K mg base "_is_mark" 4 fMk _ ["thing"] [] (spP K markD) := ⟨ok_mark FMk BB CNm CIx CPa, mMk, yMk, BMk⟩
  have CIk : Cal l.prog w K mg base "_is_ink" 5 fIk _ ["thing"] [] (spP K inkD) := ⟨ok_ink FIk BB CMk, mIk, yIk, BIk⟩
  have CSf : Cal l.prog w K mg base "_single_fits" 3 fSf _ ["head", "item"] [] (spSingle K) := ⟨ok_single FSf BB CNm CIt CIx, mSf, ySf, BSf⟩
  have CUs : Cal l.prog w K mg base "_is_use" 3 fUs _ ["items"] [] (spT K useL) := ⟨ok_use FUs BB CNm CIx, mUs, yUs, BUs⟩
  have CMb : Cal l.prog w K mg base "_may_be_made_of" 2 fMb _ ["thing"] [] (spP K madeD) := ⟨ok_madeof FMb BB CHh.ma CHh.ka, mMb, yMb, BMb⟩
  have CFi : Cal l.prog w K mg base "_items_fit" 4 fFi _ ["head", "items"] [] (spFits K) := ⟨ok_fits FFi BB CHh CIx CUs CMb CSf, mFi, yFi, BFi⟩
  have CKi : Cal l.prog w K mg base "trees_of" 1 fKi _ ["node"] [] (spKids K) := ⟨ok_kids FKi CHh (PySem.W.mg_of X G gdH) ⟨⟨ldH, kdH, sdH⟩, chkE_ok vdH⟩, mKi, yKi, BKi⟩
  have CNd : Cal l.prog w K mg base "_is_node" 6 fNd _ ["thing"] [] (spP K nodeD) := ⟨ok_node FNd BB (PySem.W.mg_of X G gtI) kI CIk CFi, mNd, yNd, BNd⟩
  have CTr : Cal l.prog w K mg base "is_tree" 7 fTr _ ["thing"] [] (spP K treeT) := ⟨ok_tree FTr CNd CKi, mTr, yTr, BTr⟩
  have CLf : Cal l.prog w K mg base "_law_first" 1 fLf _ ["_law_head"] [] spFirst := ⟨ok_first FLf BB, mLf, yLf, BLf⟩
  have CLo : Cal l.prog w K mg base "_law_ones" 1 fLo _ [] [] (spStrs ONESl) := ⟨ok_ones FLo, mLo, yLo, BLo⟩
  have CLt : Cal l.prog w K mg base "_law_twos" 1 fLt _ [] [] (spStrs TWOSl) := ⟨ok_twos FLt, mLt, yLt, BLt⟩
  have CLr : Cal l.prog w K mg base "_law_reserved" 2 fLr _ [] [] (spStrs RESw) := ⟨ok_reserved FLr CLo CLt, mLr, yLr, BLr⟩
  have CLc : Cal l.prog w K mg base "_law_is_count" 1 fLc _ ["_law_thing", "_law_least"] [] (spCnt K) := ⟨ok_count FLc BB, mLc, yLc, BLc⟩
  have CLn : Cal l.prog w K mg base "_law_is_name" 3 fLn _ ["_law_thing"] [] (spP K nameD) := ⟨ok_lname FLn BB CLr, mLn, yLn, BLn⟩
  have CLi : Cal l.prog w K mg base "_law_is_ink" 4 fLi _ ["_law_thing"] [] (spP K inkD) := ⟨ok_link FLi BB CLn CLc, mLi, yLi, BLi⟩
  have CLp : Cal l.prog w K mg base "_law_is_plain" 4 fLp _ ["_law_head", "_law_items"] [] (spPlain K) := ⟨ok_plain FLp BB CLn CLc CLo CLt, mLp, yLp, BLp⟩
  have CLy : Cal l.prog w K mg base "_law_is_tree" 44 fLy _ ["_law_thing"] [] (spLT K 40) := ⟨ok_ltree FLy BB BLy mLy CLi CLp CLr CLo CLt CLf 40, mLy, yLy, BLy⟩
  have CGm : Cal l.prog w K mg base "_law_mark" 3 fGm _ ["_law_feed"] [] (spGen MT) := ⟨ok_mk FGm BB m_range CD CP, mGm, yGm, BGm⟩
  have CGl : Cal l.prog w K mg base "_law_literal" 3 fGl _ ["_law_feed"] [] (spGen (TN 3)) := ⟨ok_lit FGl BB CD CP, mGl, yGl, BGl⟩
  have CGt : Cal l.prog w K mg base "_law_inked_tree" 7 fGt _ ["_law_feed", "_law_deep"] [] (spIT 4) := ⟨ok_it FGt BB m_range BGt mGt CD CP CGm CGl CLo CLt 4, mGt, yGt, BGt⟩
  have T1 : TA1 l.prog w K mg base fD fP fA _ _ _ := ⟨CD.G, CD.b, CD.k, CD.m, CP.G, CP.b, CP.k, CP.m, BA2, yA, mA, m_tuple, m_range⟩
  have CA : Cal l.prog w K mg base "_law_any_value" 6 fA _ ["_law_feed", "_law_deep"] dv (spAny 4) := ⟨ok_any FA T1 4, mA, yA, BA1⟩
  have CGs : Cal l.prog w K mg base "_law_spoilt" 46 fGs _ ["_law_feed", "_law_thing"] [] (spSpo 40) := ⟨ok_spo FGs BB BGs mGs CD CA vdv 40, mGs, yGs, BGs⟩
  exact ok_law FL ⟨m_range, m_max, m_min, m_len⟩ CF ⟨_, _, CD⟩ CA vdv CGt CS CGs CTr CLy
theorem walk {l : PySem.W.OpenLaw} {q : Program} {loose : List Str} {XP : (Str → Option Value) → Heap → Prop} {YP : World → Heap → Prop} {d : DefRec} {K : Params → PySem.W.Frag} (hn : l.most = some 63) (hdf : d.params.defaults = [])
    (hY : ∀ (w : World) (h : Heap), YP w h → (K w.params).In h)
    (F : ∀ (w : World) (mg : Str → Option Value) (fa : Addr) (h : Heap), (K w.params).In h → h.Ns mainGlobals mg → mg d.name = some (.ref fa) →
      ∃ fd : FuncData, (∀ (s : Shared) (u : Value), BindsTo s fd ⟨[u], []⟩ [("_law_script", u)]) ∧ ∀ base : Heap, (K w.params).In base → base.Ns mainGlobals mg → FnOk l.prog w (K w.params) mg base CX0 47 fa fd ["_law_script"] (spLaw (K w.params))) :
    PySem.W.WalkO q loose XP YP l.row.toRowW d [] (fun f vs => PySem.call f vs) :=
  L2.walk_of (n := 63) (k := 47) (x := "_law_script") (CX := fun _ => CX0) (sp := fun w => spLaw (K w.params)) hn (by decide) hdf ⟨rfl, by decide, by decide⟩ hY F (fun _ _ a ns hl _ hS => ⟨a, ns, rfl, hS, hl, fun _ => rfl⟩) fun _ _ _ _ _ z => z
end K02

open PySem PySem.W PyProof.Rows
set_option Elab.async false
set_option maxRecDepth 100000 in
set_option maxHeartbeats 0 in
theorem PySem.Challenge.cw_saidanew_k02_trees_and_other_values_holds : PySem.Challenge.rw_saidanew_k02_trees_and_other_values.Holds := by
  w_on; o_law; k_head; (case hw => w_witness2)
  k_fill
  refine K02.walk (l := PySem.Challenge.rw_saidanew_k02_trees_and_other_values) rfl rfl (fun w h Y => PySem.W.kIn_of Y) ?F
  case F =>
    intro w mg fa h KX G hmg
    refine' K02.all_mk KX G hmg ?aF ?lF ?zF ?yF ?aD ?lD ?zD ?yD ?aP ?lP ?zP ?yP ?aS ?lS ?zS ?yS ?aNm ?lNm ?zNm ?yNm ?aIt ?lIt ?zIt ?yIt ?aIx ?lIx ?zIx ?yIx ?aPa ?lPa ?zPa ?yPa ?aMk ?lMk ?zMk ?yMk ?aIk ?lIk ?zIk ?yIk ?aSf ?lSf ?zSf ?ySf ?aUs ?lUs ?zUs ?yUs ?aMb ?lMb ?zMb ?yMb ?aFi ?lFi ?zFi ?yFi ?aKi ?lKi ?zKi ?yKi ?aNd ?lNd ?zNd ?yNd ?aTr ?lTr ?zTr ?yTr ?aLf ?lLf ?zLf ?yLf ?aLo ?lLo ?zLo ?yLo ?aLt ?lLt ?zLt ?yLt ?aLr ?lLr ?zLr ?yLr ?aLc ?lLc ?zLc ?yLc ?aLn ?lLn ?zLn ?yLn ?aLi ?lLi ?zLi ?yLi ?aLp ?lLp ?zLp ?yLp ?aLy ?lLy ?zLy ?yLy ?aGm ?lGm ?zGm ?yGm ?aGl ?lGl ?zGl ?yGl ?aGt ?lGt ?zGt ?yGt ?aGs ?lGs ?zGs ?yGs ?aL ?lL ?zL ?yL ?aA ?lA ?zA ?yA ?lT ?gtI ?ltI ?vtI ?gtM ?ltM ?vtM ?gtG ?ltG ?vtG ?gdZ ?ldZ ?kdZ ?vdZ ?sdZ ?gdE ?ldE ?kdE ?vdE ?sdE ?gdH ?ldH ?kdH ?vdH ?sdH ?gdR ?ldR ?kdR ?vdR ?sdR ?gL ?gM ?b_isinstance ?b_tuple ?b_list ?b_bool ?b_int ?b_str ?b_len ?b_all ?b_zip ?b_range ?b_max ?b_min
    (case aF => k_is)
    (case lF => k_is)
    (case zF => k_is)
    (case yF => k_is)
    (case aD => k_is)
    (case lD => k_is)
    (case zD => k_is)
    (case yD => k_is)
    (case aP => k_is)
    (case lP => k_is)
    (case zP => k_is)
    (case yP => k_is)
    (case aS => k_is)
    (case lS => k_is)
    (case zS => k_is)
    (case yS => k_is)
    (case aNm => k_is)
    (case lNm => k_is)
    (case zNm => k_is)
    (case yNm => k_is)
    (case aIt => k_is)
    (case lIt => k_is)
    (case zIt => k_is)
    (case yIt => k_is)
    (case aIx => k_is)
    (case lIx => k_is)
    (case zIx => k_is)
    (case yIx => k_is)
    (case aPa => k_is)
    (case lPa => k_is)
    (case zPa => k_is)
    (case yPa => k_is)
    (case aMk => k_is)
    (case lMk => k_is)
    (case zMk => k_is)
    (case yMk => k_is)
    (case aIk => k_is)
    (case lIk => k_is)
    (case zIk => k_is)
    (case yIk => k_is)
    (case aSf => k_is)
    (case lSf => k_is)
    (case zSf => k_is)
    (case ySf => k_is)
    (case aUs => k_is)
    (case lUs => k_is)
    (case zUs => k_is)
    (case yUs => k_is)
    (case aMb => k_is)
    (case lMb => k_is)
    (case zMb => k_is)
    (case yMb => k_is)
    (case aFi => k_is)
    (case lFi => k_is)
    (case zFi => k_is)
    (case yFi => k_is)
    (case aKi => k_is)
    (case lKi => k_is)
    (case zKi => k_is)
    (case yKi => k_is)
    (case aNd => k_is)
    (case lNd => k_is)
    (case zNd => k_is)
    (case yNd => k_is)
    (case aTr => k_is)
    (case lTr => k_is)
    (case zTr => k_is)
    (case yTr => k_is)
    (case aLf => k_is)
    (case lLf => k_is)
    (case zLf => k_is)
    (case yLf => k_is)
    (case aLo => k_is)
    (case lLo => k_is)
    (case zLo => k_is)
    (case yLo => k_is)
    (case aLt => k_is)
    (case lLt => k_is)
    (case zLt => k_is)
    (case yLt => k_is)
    (case aLr => k_is)
    (case lLr => k_is)
    (case zLr => k_is)
    (case yLr => k_is)
    (case aLc => k_is)
    (case lLc => k_is)
    (case zLc => k_is)
    (case yLc => k_is)
    (case aLn => k_is)
    (case lLn => k_is)
    (case zLn => k_is)
    (case yLn => k_is)
    (case aLi => k_is)
    (case lLi => k_is)
    (case zLi => k_is)
    (case yLi => k_is)
    (case aLp => k_is)
    (case lLp => k_is)
    (case zLp => k_is)
    (case yLp => k_is)
    (case aLy => k_is)
    (case lLy => k_is)
    (case zLy => k_is)
    (case yLy => k_is)
    (case aGm => k_is)
    (case lGm => k_is)
    (case zGm => k_is)
    (case yGm => k_is)
    (case aGl => k_is)
    (case lGl => k_is)
    (case zGl => k_is)
    (case yGl => k_is)
    (case aGt => k_is)
    (case lGt => k_is)
    (case zGt => k_is)
    (case yGt => k_is)
    (case aGs => k_is)
    (case lGs => k_is)
    (case zGs => k_is)
    (case yGs => k_is)
    (case aL => k_is)
    (case lL => k_is)
    (case zL => k_is)
    (case yL => k_is)
    (case aA => k_is)
    (case lA => k_is)
    (case zA => k_is)
    (case yA => k_is)
    (case lT => k_is)
    (case gtI => k_is)
    (case ltI => k_is)
    (case vtI => decide +kernel)
    (case gtM => k_is)
    (case ltM => k_is)
    (case vtM => decide +kernel)
    (case gtG => k_is)
    (case ltG => k_is)
    (case vtG => decide +kernel)
    (case gdZ => k_is)
    (case ldZ => k_is)
    (case kdZ => k_keys)
    (case vdZ => rfl)
    (case sdZ => decide)
    (case gdE => k_is)
    (case ldE => k_is)
    (case kdE => k_keys)
    (case vdE => rfl)
    (case sdE => decide)
    (case gdH => k_is)
    (case ldH => k_is)
    (case kdH => k_keys)
    (case vdH => rfl)
    (case sdH => decide)
    (case gdR => k_is)
    (case ldR => k_is)
    (case kdR => k_keys)
    (case vdR => rfl)
    (case sdR => decide)
    (case gL => k_is)
    (case gM => k_is)
    (case b_isinstance => k_is)
    (case b_tuple => k_is)
    (case b_list => k_is)
    (case b_bool => k_is)
    (case b_int => k_is)
    (case b_str => k_is)
    (case b_len => k_is)
    (case b_all => k_is)
    (case b_zip => k_is)
    (case b_range => k_is)
    (case b_max => k_is)
    (case b_min => k_is)
