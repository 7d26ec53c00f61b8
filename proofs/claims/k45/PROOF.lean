import PyProof.Rows.All
import Wide.All
import OpenK.AllK
import Wide.FinOn
import HandS.Set
import HandS.SetTxt0
import HandS.Strs
import PyProof.Rows.SortStr
import PyProof.Rows.SortShellAny
import HandS.Comp
import HandS.SetBool
import HandS.SetFor
import HandS.TupSets
import KE.KeyNested
import HandS.ForMost
import HandS.ExcInit
import HandS.Style
import HandS.Defaults
import HandS.IsInst
import HandS.Text
import HandS.StrMore
import HandS.List
import HandS.More
import PyProof.MeetsStr3
import PyProof.FactsAll.str_7
import HandS.TupMul
import HandS.TupAny
import HandS.Deep
import PyProof.Rows.StrMeet
import HandS.Flow
import HandS.HeadHook4
import HandS.ClsMeth
import HandS.Property
import HandS.Walk
import HandS.TryOnly
import KE.GoesEnumKw
import HandS.HeadNt
import HandS.MakeKw
import HandS.Dict
import HandS.Iter
import KE.KUnpackStar
import HandS.CallLocal
import HandS.MakeKwOnly
import HandS.FStr
import HandS.Star
import OpenK.KOps
import KE.KCallOwn
import HandS.Zip
import HandS.Head0
import HandS.Head1
import HandS.Head2
import HandS.HeadEnd
import KE.KStateDown
import PySem.Challenge.RW_deskcards_k45_comparing_known_by_hand
set_option Elab.async false
set_option linter.all false
set_option maxRecDepth 100000
set_option maxHeartbeats 0
/-! sets of texts that can be walked; mine -/
namespace DLS
open PySem PySem.Spec PyProof.Rows L2
abbrev Ent : Type := Int × Value
def txt (e : Ent) : Str := match e.2 with
  | .str k _ => k
  | _ => Str.empty
def TxE (w : World) (e : Ent) : Prop := ∃ k tk, e.2 = Value.str k tk ∧ e.1 = hashStr w k
/-- how such a set's order is known -/
def Led (w : World) (t : SetTable) : Prop := w.params.followText "set-order" = true ∨ t.led = true
/-- its entries es, its table t, the texts ks in the order of its entries -/
structure TxS (w : World) (es : Array Ent) (t : SetTable) (ks : List Str) : Prop where
  good : ∀ e ∈ es.toList, TxE w e
  keys : es.toList.map txt = ks
  nd : ks.Nodup
  few : es.size < scanBound
  fits : t.fits es.size = true
  ris : Ris t.place.toList
  led : Led w t
/-- the set of the texts ks at a -/
def SetT (w : World) (h : Heap) (a : Addr) (ks : List Str) : Prop := ∃ o es ep t, h.get? a = some o ∧ o.ExactSet ∧ o.data = .set es ep t ∧ TxS w es t ks
section
variable {P : Program} {w : World} {h h' : Heap} {a : Addr} {ks : List Str} {es : Array Ent} {t : SetTable}
theorem SetT.at (R : SetT w h a ks) (k : ∀ o, h.get? a = some o → h'.get? a = some o) : SetT w h' a ks :=
  let ⟨o, es, ep, t, ho, r⟩ := R
  ⟨o, es, ep, t, k o ho, r⟩
theorem TxS.size (T : TxS w es t ks) : es.size = ks.length := by rw [← T.keys, List.length_map, Array.length_toList]
theorem TxS.elems (T : TxS w es t ks) : ElemsOf (strKind P w) es.toList := fun e he => by
  obtain ⟨k, tk, h1, h2⟩ := T.good e he
  refine ⟨⟨k, ?_, h2⟩, ?_⟩
  · rw [h1]; exact Froz.is_str k tk
  · rw [h1]; rfl
theorem is_txt {e : Ent} (g : TxE w e) (k : Str) : (strKind P w).is k e.2 = true ↔ txt e = k := by
  obtain ⟨k0, tk, h1, _⟩ := g
  unfold txt
  rw [h1]
  constructor
  · intro z
    obtain ⟨u, hu⟩ := Value.isStrOf_shape (show Value.isStrOf k (.str k0 tk) = true from z)
    injection hu
  · intro z
    have z : k0 = k := z
    rw [← z]; exact Froz.is_str k0 tk
theorem TxS.mem (T : TxS w es t ks) (k : Str) : k ∈ ks ↔ ∃ e ∈ es.toList, (strKind P w).is k e.2 = true := by
  rw [← T.keys, List.mem_map]
  exact ⟨fun ⟨e, he, q⟩ => ⟨e, he, (is_txt (T.good e he) k).2 q⟩, fun ⟨e, he, q⟩ => ⟨e, he, (is_txt (T.good e he) k).1 q⟩⟩
theorem SetT.setOf (R : SetT w h a ks) : h.SetOf (strKind P w) a (fun k => decide (k ∈ ks)) ks.length := by
  obtain ⟨o, es, ep, t, ho, hx, hd, T⟩ := R
  exact ⟨o, es, ep, t, ho, hx, hd, T.elems, fun k => by rw [decide_eq_true_eq]; exact T.mem k, T.few, T.fits, T.size⟩
/-- other entries, the same but for their order -/
theorem TxS.perm {es2 : Array Ent} {t2 : SetTable} (T : TxS w es t ks) (p : es2.toList.Perm es.toList) (f : t2.fits es2.size = true) (r : Ris t2.place.toList) (l : Led w t2) : ∃ ks2, ks2.Perm ks ∧ TxS w es2 t2 ks2 := by
  refine ⟨es2.toList.map txt, by rw [← T.keys]; exact p.map txt, ?_⟩
  have pk : (es2.toList.map txt).Perm ks := by rw [← T.keys]; exact p.map txt
  have e : es2.size = es.size := by rw [← Array.length_toList, p.length_eq, Array.length_toList]
  exact ⟨fun x hx => T.good x (p.mem_iff.mp hx), rfl, pk.nodup_iff.mpr T.nd, by rw [e]; exact T.few, f, r, l⟩
end
section
variable {P : Program} {w : World} {A : Around} {E : Value → Shared → Prop} {s : Shared} {a : Addr} {ks : List Str}
theorem put_at {h : Heap} {o : Obj} {es es2 : Array Ent} {ep : Nat} {t t2 : SetTable} (ho : h.get? a = some o) (hd : o.data = .set es ep t) : (h.update a (Obj.putSet es2 t2)).get? a = some { o with data := .set es2 (ep + 1) t2 } := by
  have q := Heap.get?_update_self (Obj.putSet es2 t2) ho (by
    rw [putSet_of es2 t2 hd]; rfl)
  rwa [putSet_of es2 t2 hd] at q
/-- what the add ends with: the entries are stored, and laid anew where the table is full -/
theorem add_end {g : Bool → Sem Unit} (hg : ∀ (b : Bool) (s₁ : Shared) (Q' : Unit → Shared → Prop), Q' () s₁ → wpAny (model P w) A (g b) Q' E s₁) {o : Obj} {es es1 : Array Ent} {ep : Nat} {t t2 : SetTable}
    (ho : s.heap.get? a = some o) (hex : o.ExactSet) (hd : o.data = .set es ep t) (T : TxS w es1 t2 ks) {full : Bool} {R : Option Bool → Shared → Prop}
    (hR : ∀ h' ks2, ks2.Perm ks → Heap.SameBut a s.heap h' → SetT w h' a ks2 → R (some true) { s with heap := h' }) :
    wpAny (model P w) A (do
        storeSet a es1 t2
        if (!full && t2.tooFull) = true then do
            g (relayAll t2 es1 (SetTable.grown es1.size)).2.2
            storeSet a (relayAll t2 es1 (SetTable.grown es1.size)).1 (relayAll t2 es1 (SetTable.grown es1.size)).2.1
            pure (some true)
          else pure (some true)) R E s := by
  have st1 := put_at (es2 := es1) (t2 := t2) ho hd
  have sb := Heap.SameBut.update s.heap a (Obj.putSet es1 t2)
  refine wpAny_bind (wpAny_storeSet_of ho hd ?_ (fits_of_scanBound T.few))
  split
  · obtain ⟨ks2, pk, T2⟩ := T.perm (relayAll_perm t2 es1 (SetTable.grown es1.size)) (relayAll_fits t2 es1 (SetTable.grown es1.size)) (relayAll_ris t2 es1 (SetTable.grown es1.size))
      (T.led.imp id fun z => by rw [relayAll_led t2 es1 (SetTable.grown es1.size)]; exact z)
    generalize relayAll t2 es1 (SetTable.grown es1.size) = Z at T2 ⊢
    obtain ⟨es3, t3, gave⟩ := Z
    dsimp only at T2 ⊢
    refine wpAny_bind (hg _ _ _ (wpAny_bind (wpAny_storeSet_of st1 rfl ?_ (fits_of_scanBound T2.few))))
    exact wpAny_pure (hR _ ks2 pk (sb.trans (Heap.SameBut.update _ a _)) ⟨_, es3, _, t3, put_at st1 rfl, hex, rfl, T2⟩)
  · exact wpAny_pure (hR _ ks (List.Perm.refl _) sb ⟨_, es1, _, t2, st1, hex, rfl, T⟩)
theorem add_hashed {k : Str} {tk : Tok} {Q : Bool → Shared → Prop} (R : SetT w s.heap a ks) (room : ks.length + 1 < scanBound)
    (hin : k ∈ ks → Q false s) (hout : k ∉ ks → ∀ h' ks2, ks2.Perm (k :: ks) → Heap.SameBut a s.heap h' → SetT w h' a ks2 → Q true { s with heap := h' }) :
    wpAny (model P w) A (setAddHashed a (.str k tk) ((strKind P w).hash k)) Q E s := by
  obtain ⟨o, es, ep, t, ho, hex, hd, T⟩ := R
  have isk : (strKind P w).is k (.str k tk) = true := Froz.is_str k tk
  have sc : (Value.str k tk).scannable = true := rfl
  have el : ElemsOf (strKind P w) es.toList := T.elems
  unfold setAddHashed setAddHashedIn
  refine wpAny_holding (wpAny_bind (wpAny_setState_of ho hd T.fits ?_))
  dsimp only
  rw [byScan_of sc T.few el]
  simp only [↓reduceIte]
  unfold setAddByScan
  refine wpAny_bind (wpAny_bind (wpAny_rule ?_))
  refine wpAny_bind (wpAny_setScan_of isk ho hd T.fits el ?_)
  cases hfi : List.findIdx? (fun e => (strKind P w).is k e.2) es.toList with
  | some j =>
    dsimp only
    obtain ⟨hj, pj, _⟩ := List.findIdx?_eq_some_iff_getElem.mp hfi
    exact wpAny_pure (wpAny_pure (hin ((T.mem (P := P) k).2 ⟨es.toList[j], List.getElem_mem hj, pj⟩)))
  | none =>
    dsimp only
    have nk : k ∉ ks := fun z => by
      obtain ⟨e, he, q⟩ := (T.mem (P := P) k).1 z
      have c := List.findIdx?_eq_none_iff.mp hfi e he
      rw [q] at c; cases c
    have gw : ∀ (b : Bool) {s₁ : Shared} {Q' : Unit → Shared → Prop}, Q' () s₁ → wpAny (model P w) A (match b with
      | true => rule "set.scan.the-table-gave-way"
      | false => pure ()) Q' E s₁ := fun b s₁ Q' q => by
        cases b
        · exact wpAny_pure q
        · exact wpAny_rule q
    have p0 := layNew_perm t es ((strKind P w).hash k) (.str k tk)
    have f0 := layNew_fits t es ((strKind P w).hash k) (.str k tk)
    have r0 := layNew_ris t es ((strKind P w).hash k) (.str k tk) T.ris
    have l0 := layNew_led t es ((strKind P w).hash k) (.str k tk)
    generalize layNew t es ((strKind P w).hash k) (.str k tk) = Z at p0 f0 r0 l0 ⊢
    obtain ⟨es1, t1, dum, gave⟩ := Z
    dsimp only at p0 f0 r0 l0 ⊢
    rw [Array.toList_push] at p0
    have pc : es1.toList.Perm (((strKind P w).hash k, Value.str k tk) :: es.toList) := p0.trans (List.perm_append_singleton _ _)
    have pk : (es1.toList.map txt).Perm (k :: ks) := by
      have z := pc.map txt
      rw [List.map_cons, T.keys] at z
      exact z
    have sz : es1.size = ks.length + 1 := by rw [← Array.length_toList, ← List.length_map (f := txt), pk.length_eq]; rfl
    have T1 : ∀ t2 : SetTable, t2.fits es1.size = true → Ris t2.place.toList → Led w t2 → TxS w es1 t2 (es1.toList.map txt) := fun t2 f r l => {
      good := (fun e he => by
        rcases List.mem_cons.mp (pc.mem_iff.mp he) with z | z
        · rw [z]; exact ⟨k, tk, rfl, rfl⟩
        · exact T.good e z)
      keys := rfl
      nd := pk.nodup_iff.mpr (List.nodup_cons.mpr ⟨nk, T.nd⟩)
      few := by rw [sz]; exact room
      fits := f
      ris := r
      led := l }
    have ld : Led w t1 := T.led.imp id fun z => by rw [l0]; exact z
    have fin : ∀ h' ks2, ks2.Perm (es1.toList.map txt) → Heap.SameBut a s.heap h' → SetT w h' a ks2 → Q true { s with heap := h' } := fun h' ks2 p sb r => hout nk h' ks2 (p.trans pk) sb r
    refine wpAny_bind (gw _ ?_)
    split
    · refine wpAny_bind ?_
      rw [hashByValue_scannable 8 sc]
      refine wpAny_pure ?_
      refine add_end (ks := es1.toList.map txt) ?_ ho hex hd (T1 _ ?_ ?_ ?_) ?_
      · intro b s₁ Q' q
        cases b
        · exact wpAny_pure q
        · exact wpAny_rule q
      · first | (split <;> first | exact f0 | exact SetTable.fits_plain_off f0) | exact f0
      · first | (split <;> exact r0) | exact r0
      · first | (split <;> exact ld) | exact ld
      · intro h' ks2 p sb r
        dsimp only
        exact wpAny_pure (fin h' ks2 p sb r)
    · refine wpAny_bind (wpAny_pure ?_)
      simp only [↓reduceIte]
      refine add_end (ks := es1.toList.map txt) ?_ ho hex hd (T1 _ f0 r0 ld) ?_
      · intro b s₁ Q' q
        cases b
        · exact wpAny_pure q
        · exact wpAny_rule q
      · intro h' ks2 p sb r
        dsimp only
        exact wpAny_pure (fin h' ks2 p sb r)
/-- found.add(k) -/
theorem add_txt {k : Str} {tk : Tok} {Q : Value → Shared → Prop} (R : SetT w s.heap a ks) (room : ks.length + 1 < scanBound)
    (hQ : ∀ h' ks2, (if k ∈ ks then ks2 = ks else ks2.Perm (k :: ks)) → Heap.SameBut a s.heap h' → SetT w h' a ks2 → Q .none { s with heap := h', toks := s.toks + 1 }) :
    wpAny (model P w) A (call (.builtin "set.add") [.ref a, .str k tk]) Q E s := by
  have S0 : s.heap.SetOf (strKind P w) a (fun k => decide (k ∈ ks)) ks.length := R.setOf
  refine wpAny_call_entry F.slot_set_add S0.typeIs F.entry_set_add ?_ (F.args_set_add_2 _ _)
  unfold Builtin.«set.add» Builtin.Frozenset.oneOther
  simp only [List.isEmpty_nil, bind_assoc]
  unfold Builtin.Frozenset.addrOf setAdd
  refine wpAny_bind (wpAny_pure ?_)
  try dsimp only
  refine wpAny_bind (wpAny_pure ?_)
  try dsimp only
  refine wpAny_bind (wpAny_holding (wpAny_bind ((strKind P w).pyHash (Froz.is_str k tk) ?_)))
  refine add_hashed (s := { s with toks := s.toks + 1 }) R room (fun z => ?_) fun z h' ks2 p sb r => ?_
  · show wpAny _ _ (ret Value.none) _ _ _
    exact wpAny_pure ⟨_, rfl, hQ s.heap ks (by rw [if_pos z]) (Heap.SameBut.refl a s.heap) R⟩
  · show wpAny _ _ (ret Value.none) _ _ _
    exact wpAny_pure ⟨_, rfl, hQ h' ks2 (by rw [if_neg z]; exact p) sb r⟩
end
end DLS

namespace DLS
open PySem PySem.Spec PyProof.Rows L2
section
variable {P : Program} {w : World} {A : Around} {E : Value → Shared → Prop} {s : Shared} {a : Addr} {ks : List Str}
theorem strs_vals : ∀ (l : List Ent), (∀ e ∈ l, TxE w e) → StrsAre (l.map (·.2)) (l.map txt)
  | [], _ => .nil
  | e :: l, h => by
    obtain ⟨k, tk, h1, _⟩ := h e List.mem_cons_self
    have e1 : txt e = k := by unfold txt; rw [h1]
    rw [List.map_cons, List.map_cons, h1, e1]
    exact .cons k tk (strs_vals l fun x hx => h x (List.mem_cons_of_mem _ hx))
theorem strs_perm {us vs : List Value} {ks : List Str} (p : us.Perm vs) (h : StrsAre vs ks) : ∃ ms, ms.Perm ks ∧ StrsAre us ms := by
  induction p generalizing ks with
  | nil => exact ⟨ks, List.Perm.refl _, h⟩
  | cons x _ ih =>
    cases h with
    | cons y t h =>
      obtain ⟨ms, p1, h1⟩ := ih h
      exact ⟨y :: ms, p1.cons y, .cons y t h1⟩
  | swap x y l =>
    cases h with
    | cons k1 t1 h =>
      cases h with
      | cons k2 t2 h => exact ⟨k2 :: k1 :: _, List.Perm.swap _ _ _, .cons k2 t2 (.cons k1 t1 h)⟩
  | trans _ _ ih1 ih2 =>
    obtain ⟨m1, p1, h1⟩ := ih2 h
    obtain ⟨m2, p2, h2⟩ := ih1 h1
    exact ⟨m2, p2.trans p1, h2⟩
/-- sorted(s), s a set of texts -/
theorem sorted_txt {Q : Value → Shared → Prop} (R : SetT w s.heap a ks) (hh : A.handled = none)
    (hQ : ∀ s' p (out : Array Value) (c : Nat) (ms : List Str), (∀ b o, s.heap.get? b = some o → s'.heap.get? b = some o) → s'.gens = s.gens → s'.os = s.os → s.heap.objs.size ≤ p →
      s'.heap.get? p = some (seqObj "list" out c) → StrsAre out.toList ms → ms.Perm ks → sortedS ms = true → Q (.ref p) s') :
    wpAny (model P w) A (call (.builtin "sorted") [.ref a]) Q E s := by
  obtain ⟨o, es, ep, t, ho, hex, hd, T⟩ := R
  refine Calls.call_function_entry kind_sorted plain_sorted entry_sorted (args_sorted1 _) ?_
  unfold Builtin.«sorted»
  refine wpAny_bind (m := checkCount "sorted" 1 1 _) (wpAny_pure ?_)
  refine wpAny_bind (collect_set (A := A.in1) hh ⟨o, ho, hex.1, hd⟩ T.fits T.few T.ris T.led fun s1 vs k1 hz g1 o1 pm => ?_)
  have few : vs.length < 4096 := by
    rw [pm.length_eq, List.length_map, Array.length_toList]
    exact T.few
  have S0 := strs_vals es.toList T.good
  rw [T.keys] at S0
  obtain ⟨ms, p1, S1⟩ := strs_perm pm S0
  refine wpAny_bind (wpAny_newList ?_ (by rw [sizeLine_eq]; omega))
  have oL : (s1.heap.push (seqObj "list" vs.toArray 0)).get? s1.heap.objs.size = some (seqObj "list" vs.toArray 0) := Heap.get?_push_size _ rfl
  refine wpAny_bind (wpAny_holding (wpAny_call_entry slot_list_sort ⟨_, oL, rfl⟩ entry_list_sort
    (list_sort_treeKAny strKind_oneLt oL S1.keysOf (fun v₁ v₂ rest e => keyKind_strs (by rw [← e]; exact S1)) (by rw [sizeLine_eq]; omega) fun st' q1 q2 => ⟨_, rfl, ?_⟩) (args_list_sort _)))
  obtain ⟨ns, h1, h2, h3⟩ := sorted_out_str S1 q1 q2
  obtain ⟨c, hc⟩ := sortedHeap_at (vs := vs) (out := (arrOf st').map (·.2)) oL
  refine wpAny_pure ⟨_, rfl, hQ _ s1.heap.objs.size _ c ns (fun b u e => ?_) g1 o1 hz hc h1 (h2.trans p1) h3⟩
  have q := k1 b u e
  have lt := Heap.lt_size q
  show (sortedHeap (s1.heap.push (seqObj "list" vs.toArray 0)) s1.heap.objs.size vs _).get? b = some u
  rw [sortedHeap_old (Nat.ne_of_lt lt) (by rw [size_push']; exact Nat.lt_succ_of_lt lt)]
  exact Heap.get?_push_of_some _ q
end
end DLS

namespace DLS
open PySem PySem.Spec PyProof.Rows L2
/-- at a: a set of the texts ks, in the order of its entries -/
def SetTO (w : World) (a : Addr) (ks : List Str) : HO := .ext fun h => SetT w h a ks
theorem setTO_new {w : World} {P : Program} {H : Hp} {h : Heap} {a : Addr} {ks : List Str} (R : SetT w h a ks) : ObjOk P w H h a (SetTO w a ks) := by
  have ⟨o, _, _, _, ho, _⟩ := R
  exact ⟨R, ⟨o, ho⟩, fun h1 h2 p k => SetT.at p k⟩
theorem setT_fresh {h : Heap} (w : World) : SetT w (h.push { cls := .type "set", dict := none, data := .set #[] 0 (.fresh 0 0 (!w.params.followText "set-order")) }) h.objs.size [] :=
  ⟨_, #[], 0, _, Heap.get?_push_size _ rfl, ⟨rfl, rfl, rfl⟩, rfl, (fun e he => by simp at he), rfl, List.nodup_nil, by decide, by rfl, List.Pairwise.nil, by
    show _ ∨ (!w.params.followText "set-order") = true
    cases w.params.followText "set-order"
    · exact .inr rfl
    · exact .inl rfl⟩
theorem vals_strs : ∀ {us : List Value} {ks : List Str}, StrsAre us ks → Vals (ks.map V.str) us
  | _, _, .nil => .nil
  | _, _, .cons k t h => .cons ⟨t, rfl⟩ (vals_strs h)
section
variable {X : Cx} {pins : List (Addr × Obj)} {σ : L2.St} {H : Hp} {s : Shared} {a : Addr} {ks : List Str}
theorem setTO_get (I : Inv X pins σ H s) (ha : H a = some (SetTO X.w a ks)) : SetT X.w s.heap a ks := (I.hok a _ ha).1
/-- s.add(k) -/
theorem addTO {E : Value → Shared → Prop} {A : Around} {k : Str} {tk : Tok} {Q : Value → Shared → Prop} (I : Inv X pins σ H s) (ha : H a = some (SetTO X.w a ks)) (room : ks.length + 1 < scanBound)
    (h : ∀ s' ks2, (if k ∈ ks then ks2 = ks else ks2.Perm (k :: ks)) → Inv X pins σ (upd H a (SetTO X.w a ks2)) s' → Q .none s') : wpAny (model X.prog X.w) A (call (.builtin "set.add") [.ref a, .str k tk]) Q E s := by
  refine add_txt (setTO_get I ha) room fun h' ks2 p sb new => ?_
  have he : ∃ u, h'.get? a = some u := by
    have ⟨o, _, _, _, ho, _⟩ := new
    exact ⟨o, ho⟩
  exact h _ ks2 p (I.write (e := a) (t' := s.toks + 1) (by rw [ha]; trivial) (.inl rfl) (fun b u hb hu => (sb.2 b hb).trans hu) he (setTO_new new))
def rAddT (w : World) : V → List V → Hp → VK → Prop := fun x xs H Q => ∃ (a : Addr) (k : Str) (ks : List Str), x = V.ref a ∧ xs = [V.str k] ∧ H a = some (SetTO w a ks) ∧ ks.length + 1 < scanBound ∧
  ∀ ks2, (if k ∈ ks then ks2 = ks else ks2.Perm (k :: ks)) → Q .non (upd H a (SetTO w a ks2))
theorem mt_addT : MtR X "set.add" (rAddT X.w) := by
  intro pins s σ H x xs v us Q I rx rxs h
  obtain ⟨a, k, ks, rfl, rfl, ha, room, q⟩ := h
  cases rx
  cases rxs with
  | cons ry rt =>
    cases rt
    obtain ⟨tk, rfl⟩ := ry
    exact addTO I ha room fun s' ks2 p J => ⟨.non, _, J, rfl, q ks2 p⟩
/-- set() -/
theorem cr_setT0 : CallR X (.type "set") (fun xs H Q => xs = [] ∧ ∀ p, H p = none → Q (.ref p) (upd H p (SetTO X.w p []))) := by
  intro pins s σ H xs us Q I r h
  obtain ⟨rfl, q⟩ := h
  cases r
  refine setR_new fun _ => ?_
  exact ⟨.ref _, _, I.laid (t' := s.toks) (fun b u e => Heap.get?_push_of_some _ e) (Nat.le_refl _) (setTO_new (setT_fresh X.w)), rfl, q _ (I.hok.fresh (Nat.le_refl _))⟩
/-- sorted(s) -/
def rSortedT (w : World) : List V → Hp → VK → Prop := fun vs H Q => ∃ (a : Addr) (ks : List Str), vs = [V.ref a] ∧ H a = some (SetTO w a ks) ∧
  ∀ (ms : List Str) (p : Addr), ms.Perm ks → sortedS ms = true → H p = none → Q (.ref p) (upd H p (.lst (ms.map V.str)))
theorem cr_sortedT (hc : X.calm = true) : CallR X (.builtin "sorted") (rSortedT X.w) := by
  intro pins s σ H vs us Q I r h
  obtain ⟨a, ks, rfl, ha, q⟩ := h
  have R := setTO_get I ha
  rw [Vals.ref1 r]
  have few : ks.length < 4096 := by
    obtain ⟨o, es, ep, t, ho, hx, hd, T⟩ := R
    rw [← T.size]; exact T.few
  refine sorted_txt R (I.ok.hd hc) fun s' p out c ms k g o hp hg hi pm hs => ?_
  have hl : (ms.map V.str).length ≤ sizeLine := by
    rw [List.length_map, pm.length_eq, sizeLine_eq]; omega
  have hn : H p = none := I.hok.fresh hp
  have J : Inv X pins σ (upd H p (.lst (ms.map V.str))) { s with heap := s'.heap, gens := s'.gens, drawn := s'.drawn, toks := s'.toks } :=
    I.call (ch := []) (Un.laid k hp hn) (I.hok.laid k hp ⟨hl, out.toList, c, vals_strs hi, hg⟩) (by rw [g]; exact I.bare) (fun _ z => nomatch z)
  have e : s' = { s with heap := s'.heap, gens := s'.gens, drawn := s'.drawn, toks := s'.toks } := by
    cases s'
    cases s
    cases o
    rfl
  rw [e]
  exact ⟨.ref p, _, J, rfl, q ms p pm hs hn⟩
end
end DLS

/-! a set comprehension of texts with two fors -/
namespace DLS
open PySem PySem.Spec PyProof.Rows L2
abbrev sc2 (elt t0 i0 : Expr) (ifs0 : List Expr) (t1 i1 : Expr) (ifs1 : List Expr) (scope : Scope) (pos : Pos) : Expr := .SetComp elt [⟨t0, i0, ifs0, 0⟩, ⟨t1, i1, ifs1, 0⟩] scope pos
section
variable {elt t0 i0 t1 i1 : Expr} {ifs0 ifs1 : List Expr} {scope : Scope} {pos : Pos} {it acc : Value} {env : Env}
theorem turn_out : compTurn (sc2 elt t0 i0 ifs0 t1 i1 ifs1 scope pos) 0 it acc env = (do
      standAt i0.pos
      match ← pyNext it with
      | none => pure (.done .next)
      | some v =>
        letOwnedTupleGo t0 it v
        assign t0 env v
        let mut ok := true
        for c in ifs0 do
          if ok then ok ← isTrue c env (eval c env)
        if ok then
          let x ← eval i1 env
          standAt i1.pos
          let x ← foldedSetIterable i1 env x
          let _ ← runOwn (.compStart (sc2 elt t0 i0 ifs0 t1 i1 ifs1 scope pos) 1 (← holding [x] (pyIter x)) acc env) env
        again (.compLoop (sc2 elt t0 i0 ifs0 t1 i1 ifs1 scope pos) 0 it acc env)) := by rfl
theorem turn_in : compTurn (sc2 elt t0 i0 ifs0 t1 i1 ifs1 scope pos) 1 it acc env = (do
      standAt i1.pos
      match ← pyNext it with
      | none => pure (.done .next)
      | some v =>
        letOwnedTupleGo t1 it v
        assign t1 env v
        let mut ok := true
        for c in ifs1 do
          if ok then ok ← isTrue c env (eval c env)
        if ok then
          (do let v ← eval elt env; standAt elt.pos; let _ ← call (.builtin "set.add") [acc, v])
        again (.compLoop (sc2 elt t0 i0 ifs0 t1 i1 ifs1 scope pos) 1 it acc env)) := by rfl
variable {prog : Program} {w : World} {A : Around} {R : Result → Shared → Prop} {s : Shared}
abbrev NB (prog : Program) (w : World) (A : Around) (env : Env) (R : Result → Shared → Prop) : Value → Shared → Prop := notedBy (model prog w) A env fun e s' => R (.error e) s'
/-- the tests of a clause -/
abbrev tests (ifs : List Expr) (env : Env) : Sem Bool := forIn ifs true fun c r => if r = true then do let ok ← isTrue c env (eval c env); pure (ForInStep.yield ok) else pure (ForInStep.yield r)
theorem loop_out (hs : ∀ x, foldedSetIterable i1 env x = pure x) (I : Nat → Shared → Prop)
    (turn : ∀ n s, I n s → wpAny (model prog w) A (pyNext it) (fun r s1 => match r with
      | none => R (.ok .next) s1
      | some v => wpAny (model prog w) A (letOwnedTupleGo t0 it v) (fun _ s2 => wpAny (model prog w) A (assign t0 env v) (fun _ s3 =>
          wpAny (model prog w) A (tests ifs0 env) (fun ok s4 =>
            if ok = true then wpAny (model prog w) A (eval i1 env) (fun x s5 => wpAny (model prog w) A (pyIter x) (fun it1 s6 =>
              codeAny (model prog w) A (.compStart (sc2 elt t0 i0 ifs0 t1 i1 ifs1 scope pos) 1 it1 acc env) (fun r s' => match r with
                | .ok _ => ∃ m, m < n ∧ I m s'
                | .error _ => False) s6) (NB prog w A env R) s5) (NB prog w A env R) s4
            else ∃ m, m < n ∧ I m s4) (NB prog w A env R) s3) (NB prog w A env R) s2) (NB prog w A env R) s1) (NB prog w A env R) s)
    (n : Nat) (h : I n s) : codeAny (model prog w) A (.compLoop (sc2 elt t0 i0 ifs0 t1 i1 ifs1 scope pos) 0 it acc env) R s := by
  refine codeAny_loop rfl I (fun n s hI => ?_) n h
  show wpAny _ A ((compTurn (sc2 elt t0 i0 ifs0 t1 i1 ifs1 scope pos) 0 it acc env).onRaise (fun x => do
    noteFrame x env
    theTreesLotGoes x)) _ _ s
  refine wpAny_noted ?_
  rw [turn_out]
  refine wpAny_bind (wpAny_standAt (wpAny_bind (wpAny_mono (turn n s hI) (fun r s1 h1 => ?_)
    fun _ _ z => z)))
  cases r with
  | none => exact wpAny_pure h1
  | some v =>
    refine wpAny_bind (wpAny_mono h1 (fun _ s2 h2 => ?_)
      fun _ _ z => z)
    refine wpAny_bind (wpAny_mono h2 (fun _ s3 h3 => wpAny_bind (wpAny_mono h3 (fun ok s4 h4 => ?_)
      fun _ _ z => z)) fun _ _ z => z)
    cases ok with
    | false => exact wpAny_pure ⟨rfl, h4⟩
    | true =>
      refine wpAny_bind (wpAny_mono h4 (fun x s5 h5 => ?_)
        fun _ _ z => z)
      refine wpAny_bind (wpAny_standAt (wpAny_bind (wpAny_of_eq (hs x) (wpAny_bind (wpAny_holding
        (wpAny_mono h5 (fun it1 s6 h6 => ?_) fun _ _ z => z))))))
      refine wpAny_bind (wpAny_runOwn ?_)
      rw [Around.mark_none]
      refine codeAny_mono h6 fun r s' hr => ?_
      cases r with
      | ok f => first | exact wpAny_pure ⟨rfl, hr⟩ | exact wpAny_bind (wpAny_pure (wpAny_pure ⟨rfl, hr⟩))
      | error e => exact hr.elim
theorem loop_in (I : Nat → Shared → Prop)
    (turn : ∀ n s, I n s → wpAny (model prog w) A (pyNext it) (fun r s1 => match r with
      | none => R (.ok .next) s1
      | some v => wpAny (model prog w) A (letOwnedTupleGo t1 it v) (fun _ s2 => wpAny (model prog w) A (assign t1 env v) (fun _ s3 =>
          wpAny (model prog w) A (tests ifs1 env) (fun ok s4 =>
            if ok = true then wpAny (model prog w) A (eval elt env) (fun x s5 =>
              wpAny (model prog w) A (call (.builtin "set.add") [acc, x]) (fun _ s6 => ∃ m, m < n ∧ I m s6) (NB prog w A env R) s5) (NB prog w A env R) s4
            else ∃ m, m < n ∧ I m s4) (NB prog w A env R) s3) (NB prog w A env R) s2) (NB prog w A env R) s1) (NB prog w A env R) s)
    (n : Nat) (h : I n s) : codeAny (model prog w) A (.compLoop (sc2 elt t0 i0 ifs0 t1 i1 ifs1 scope pos) 1 it acc env) R s := by
  refine codeAny_loop rfl I (fun n s hI => ?_) n h
  show wpAny _ A ((compTurn (sc2 elt t0 i0 ifs0 t1 i1 ifs1 scope pos) 1 it acc env).onRaise (fun x => do
    noteFrame x env
    theTreesLotGoes x)) _ _ s
  refine wpAny_noted ?_
  rw [turn_in]
  refine wpAny_bind (wpAny_standAt (wpAny_bind (wpAny_mono (turn n s hI) (fun r s1 h1 => ?_)
    fun _ _ z => z)))
  cases r with
  | none => exact wpAny_pure h1
  | some v =>
    refine wpAny_bind (wpAny_mono h1 (fun _ s2 h2 => ?_)
      fun _ _ z => z)
    refine wpAny_bind (wpAny_mono h2 (fun _ s3 h3 => wpAny_bind (wpAny_mono h3 (fun ok s4 h4 => ?_)
      fun _ _ z => z)) fun _ _ z => z)
    cases ok with
    | false => exact wpAny_pure ⟨rfl, h4⟩
    | true =>
      exact wpAny_bind (wpAny_bind (wpAny_mono h4 (fun x s5 h5 => wpAny_bind (wpAny_standAt (wpAny_bind
        (wpAny_mono h5 (fun _ s6 h6 => wpAny_pure (wpAny_pure ⟨rfl, h6⟩)) fun _ _ z => z)))) fun _ _ z => z))
theorem start_in (h0 : codeAny (model prog w) A (.compLoop (sc2 elt t0 i0 ifs0 t1 i1 ifs1 scope pos) 1 it acc env) R s)
    (h : wpAny (model prog w) A (pyIter it) (fun it2 s' => codeAny (model prog w) A (.compLoop (sc2 elt t0 i0 ifs0 t1 i1 ifs1 scope pos) 1 it2 acc env) R s') (NB prog w A env R) s) :
    codeAny (model prog w) A (.compStart (sc2 elt t0 i0 ifs0 t1 i1 ifs1 scope pos) 1 it acc env) R s := by
  refine codeAny_of_tree ?_
  show wpAny _ _ ((compStart (sc2 elt t0 i0 ifs0 t1 i1 ifs1 scope pos) 1 it acc env).onRaise (fun x => do
    noteFrame x env
    standAt theWindowsPlace)) _ _ s
  refine wpAny_notedAt ?_
  unfold compStart
  show wpAny _ _ (ask >>= _) _ _ s
  refine wpAny_bind (wpAny_askSetting (wpAny_ite ?_))
  split
  · first
      | exact wpAny_bind (wpAny_pure (wpAny_pure ⟨rfl, h0⟩))
      | exact wpAny_pure ⟨rfl, h0⟩
  · first
      | exact wpAny_bind (wpAny_rule (wpAny_bind (wpAny_standAt (wpAny_bind (wpAny_mono h (fun it2 s' z => wpAny_pure ⟨rfl, z⟩)
          fun _ _ x => x)))))
      | (refine wpAny_bind (wpAny_rule ?_)
         show wpAny _ _ (standAt i1.pos >>= _) _ _ s
         exact wpAny_bind (wpAny_standAt (wpAny_bind (wpAny_mono h (fun it2 s' z => wpAny_pure ⟨rfl, z⟩)
           fun _ _ x => x))))
end
end DLS

namespace DLS
open PySem PySem.Spec PyProof.Rows L2
/-- in each block of this comprehension -/
abbrev Blk (X : Cx) (scope : Scope) (F : Cx → Prop) := ∀ (s : Shared) (H : Hp) (C : Addr) (cl : List (Str × Addr)) (fp : List Addr), F (X.blk s H scope (compEnvC scope cl C X.env) fp)
section
variable {X : Cx}
/-- {elt for tg in iter if .. for tg1 in iter1 if ..}, elt a text; D the new set -/
def tSc2 (w : World) (wi : TI) (g : TG) (tt : TT) (wi1 : TI) (g1 : TG) (tt1 : TT) (te : TE) (vs vs1 : List Nat) : TE := fun σ H Q => wi σ H fun J H1 => ∀ D, H1 D = none → ∃ W : Nat → Nat → Hp → Prop, (∃ m, W 0 m (upd H1 D (SetTO w D []))) ∧ ∀ i m H, W i m H →
  (J.stop i H ∧ Q (.ref D) H) ∨ (J.go i H ∧ ∃ Nx : Hp → Prop, (∀ H', Nx H' → ∃ m', m' < m ∧ W (i + 1) m' H') ∧ ∀ x H', J.yld i H x H' → g x (wipe σ vs) H' fun σ2 H2 => wipe σ2 vs = wipe σ vs ∧ tt σ2 H2 fun b H3 =>
    if b = true then wi1 σ2 H3 fun J1 H4 => ∃ W1 : Nat → Nat → Hp → Prop, (∃ m, W1 0 m H4) ∧ ∀ j k H, W1 j k H →
      (J1.stop j H ∧ Nx H) ∨ (J1.go j H ∧ ∃ Nx1 : Hp → Prop, (∀ H', Nx1 H' → ∃ k', k' < k ∧ W1 (j + 1) k' H') ∧ ∀ x H', J1.yld j H x H' → g1 x (wipe σ2 vs1) H' fun σ3 H5 => wipe σ3 vs1 = wipe σ2 vs1 ∧ tt1 σ3 H5 fun b H6 =>
        if b = true then te σ3 H6 fun y H7 => ∃ k ks, y = .str k ∧ H7 D = some (SetTO w D ks) ∧ ks.length + 1 < scanBound ∧ ∀ ks2, (if k ∈ ks then ks2 = ks else ks2.Perm (k :: ks)) → Nx1 (upd H7 D (SetTO w D ks2)) else Nx1 H6)
    else Nx H3)
theorem sc2_core {pins : List (Addr × Obj)} {s : Shared} {σ : L2.St} {H : Hp} {Q : VK} {elt tg iter tg1 iter1 : Expr} {ifs ifs1 : List Expr} {scope : Scope} {own : List (Str × Nat)} {vs1 : List Nat} {pos pos' : Pos} {wi wi1 : TI} {g g1 : TG} {tt tt1 : TT} {te : TE} {use : Option (Value → Sem Unit)} {Qf : Value → Shared → Prop}
    (hc : X.calm = true) (hN : X.N.Nodup) (I : Inv X pins σ H s) (hi : PI X tg iter wi) (ok : BlkOk X.N X.env.scope scope own) (hv : ∀ i ∈ vs1, i ∈ own.map (·.2))
    (hg : Blk X scope fun Y => PG Y tg g) (ht : Blk X scope fun Y => PTs Y ifs tt) (he : Blk X scope fun Y => PE Y elt te) (hs : ∀ x, foldedSetIterable iter X.env x = pure x)
    (hi1 : Blk X scope fun Y => PI Y tg1 iter1 wi1) (hg1 : Blk X scope fun Y => PG Y tg1 g1) (ht1 : Blk X scope fun Y => PTs Y ifs1 tt1) (hs1 : ∀ env x, foldedSetIterable iter1 env x = pure x)
    (h : tSc2 X.w wi g tt wi1 g1 tt1 te (own.map (·.2)) vs1 σ H Q)
    (hRR : ∀ D C s' m H', Inv X pins σ H' s' → Q (.ref D) H' → s'.heap.Ns C m → FpOk X pins H' C → compPost (model X.prog X.w) X.A X.xe use Qf (.ref D) C (.ok .next) s') :
    wpAny (model X.prog X.w) X.A (comprehension (sc2 elt tg iter ifs tg1 iter1 ifs1 scope pos) scope X.env pos' (newSet (.type "set")) false (eval iter X.env) use) Qf X.xe s := by
  have free : ∀ y ∈ scope.names, y.2 = .free → ∃ c, X.env.cells.lookup y.1 = some c := fun y hy e => by
    rcases ok.free y hy e with k | k
    · exact I.ok.has _ (.inl k)
    · exact I.ok.has _ (.inr k)
  refine wpAny_comprehension_free (use := use) rfl hs (closure_ok free) ok.kind (fun y hy e => by
    rw [ok.uniq y hy, e]) (thn (hi.run pins s σ H _ I h) fun xv s1 hx => thn hx fun itv s2 h2 => ?_)
  obtain ⟨it, fp, tn, J, H2, e, I2, T, st2, f2, q⟩ := h2
  subst e
  refine PpSet.newSet_ok (newEnv_comp ?_)
  generalize hD : s2.heap.objs.size = D
  have hDn : H2 D = none := I2.hok.fresh (Nat.le_of_eq hD)
  obtain ⟨W, ⟨m0, w0⟩, turn⟩ := q D hDn
  generalize hs3 : ({ s2 with heap := s2.heap.push { cls := .type "set", dict := none, data := .set #[] 0 (.fresh 0 0 (!X.w.params.followText "set-order")) } } : Shared) = s3
  have I3 : Inv X pins σ (upd H2 D (SetTO X.w D [])) s3 := by
    rw [← hs3]
    refine I2.laid (t' := s2.toks) (fun b o e => Heap.get?_push_of_some _ e) (Nat.le_of_eq hD) ?_
    rw [← hD]
    exact setTO_new (setT_fresh X.w)
  have h3 : s3.heap = s2.heap.push { cls := .type "set", dict := none, data := .set #[] 0 (.fresh 0 0 (!X.w.params.followText "set-order")) } := by
    rw [← hs3]
  have f3 : ∀ b ∈ fp, FpOk X pins (upd H2 D (SetTO X.w D [])) b ∧ b < s3.heap.objs.size := fun b hb => by
    obtain ⟨o, e, _⟩ := T.obj _ _ st2 b hb
    have lt := Heap.lt_size e
    refine ⟨⟨?_, (f2 b hb).2⟩, by rw [h3, Heap.size_push]; exact Nat.lt_succ_of_lt lt⟩
    rw [upd_ne (by rw [← hD]; exact Nat.ne_of_lt lt)]
    exact (f2 b hb).1
  have st3 : tn 0 s3.heap := T.keep _ _ _ st2 fun b _ o e => by
    rw [h3]; exact Heap.get?_push_of_some _ e
  have I4 := block_start I3 ok hN f3
  generalize hcs : cellsFrom (s3.heap.objs.size + 1) scope.names (cloFrom X.env.cells scope.names []) = cs at I4 ⊢
  have pg := hg s3 (upd H2 D (SetTO X.w D [])) s3.heap.objs.size cs fp
  have pt := ht s3 (upd H2 D (SetTO X.w D [])) s3.heap.objs.size cs fp
  have pe := he s3 (upd H2 D (SetTO X.w D [])) s3.heap.objs.size cs fp
  have pi1 := hi1 s3 (upd H2 D (SetTO X.w D [])) s3.heap.objs.size cs fp
  have pg1 := hg1 s3 (upd H2 D (SetTO X.w D [])) s3.heap.objs.size cs fp
  have pt1 := ht1 s3 (upd H2 D (SetTO X.w D [])) s3.heap.objs.size cs fp
  show codeAny _ _ (.compStart (sc2 elt tg iter ifs tg1 iter1 ifs1 scope pos) 0 (.ref it) (.ref D) (compEnvC scope cs s3.heap.objs.size X.env)) (compPost (model X.prog X.w) X.A X.xe use Qf (.ref D) s3.heap.objs.size)
    { s3 with heap := pushCells (s3.heap.push { cls := .type "dict", data := .dict #[] }) scope.names }
  have nfp : ∀ b ∈ fp, (upd H2 D (SetTO X.w D [])) b = none := fun b hb => (f3 b hb).1.1
  generalize hce : compEnvC scope cs s3.heap.objs.size X.env = ce at I4 pg pt pe pi1 pg1 pt1 ⊢
  have cL : ce.locals = s3.heap.objs.size := by subst hce; rfl
  generalize hH3 : upd H2 D (SetTO X.w D []) = H3 at I3 I4 pg pt pe pi1 pg1 pt1 w0 nfp f3
  generalize hs4 : ({ s3 with heap := pushCells (s3.heap.push { cls := .type "dict", data := .dict #[] }) scope.names } : Shared) = s4 at I4 ⊢
  have st4 : tn 0 s4.heap := T.keep _ _ _ st3 fun b _ o e => by
    rw [← hs4]; exact pushCells_keeps _ _ _ _ (Heap.get?_push_of_some _ e)
  let Y : Cx := X.blk s3 H3 scope ce fp
  have stat : ∀ {σ' : L2.St} {H' : Hp} {s' : Shared}, Inv Y [] σ' H' s' → (∀ b ∈ fp, H' b = none) → ∀ b ∈ fp, FpOk Y [] H' b := fun {σ' H' s'} I' hn b hb =>
    ⟨hn b hb, (I'.ok.exf b hb).1, I'.ok.exfs b hb, .inl hb, fun x c e => (I'.ok.exf b hb).2 x c e, fun p hp => absurd (show p ∈ ([] : List (Addr × Obj)) ++ [] from hp) (by simp)⟩
  let out : Nat → Shared → Prop := fun n s' => ∃ i H', Inv Y [] (wipe σ (own.map (·.2))) H' s' ∧ tn i s'.heap ∧ (∀ b ∈ fp, H' b = none) ∧ W i n H'
  have loop : codeAny (model X.prog X.w) X.A (.compLoop (sc2 elt tg iter ifs tg1 iter1 ifs1 scope pos) 0 (.ref it) (.ref D) ce) (compPost (model X.prog X.w) X.A X.xe use Qf (.ref D) s3.heap.objs.size) s4 := by
    refine loop_out (hs1 ce) out ?_ m0 ⟨0, H3, I4, st4, nfp, w0⟩
    rintro n s5 ⟨i, H5, I5, st5, n5, w5⟩
    rcases turn i n H5 w5 with ⟨stop, qq⟩ | ⟨go, Nx, hNx, step⟩
    · refine thnF (T.done Y rfl rfl rfl hc i [] s5 _ H5 (fun _ _ => False) I5 (stat I5 n5) st5 stop) fun r s6 ⟨hr, I6⟩ => ?_
      subst hr
      have I7 : Inv X pins σ H5 s6 := I3.call' (ch := fp) I6.os I6.base I6.hok I6.bare fun b hb =>
        ⟨(f3 b hb).1.2.2.2.1, (f3 b hb).1.2.1, (f3 b hb).1.2.2.2.2.1, (f3 b hb).1.2.2.2.2.2⟩
      have nC : H5 s3.heap.objs.size = none := by
        have z : H5 ce.locals = none := I6.free
        rwa [cL] at z
      obtain ⟨m, hn, _⟩ := I6.loc
      have hn : s6.heap.Ns ce.locals m := hn
      rw [cL] at hn
      exact hRR D s3.heap.objs.size s6 m H5 I7 qq hn (I3.fpOk (Nat.le_refl _) nC)
    · refine thnF (T.item Y rfl rfl rfl hc i [] s5 _ H5 (fun _ _ => False) I5 (stat I5 n5) st5 go) fun r s6 ⟨u, hr, h6⟩ => ?_
      subst hr
      refine thnF h6 fun _ s7 ⟨x, H7, I7, r7, y7, st7, n7⟩ => ?_
      have I7' := I7.pinned (stat I7 n7) (T.obj _ _ st7)
      refine thnF (pg.run _ s7 _ H7 x u _ I7' r7 (step x H7 y7)) fun _ s8 ⟨σ8, H8, I8, hw8, q8⟩ => ?_
      refine thnF (pt.run _ s8 σ8 H8 _ I8 q8) fun b s9 ⟨H9, I9, q9⟩ => ?_
      have fin : ∀ {σ9 : L2.St} {s' : Shared} {H' : Hp}, Inv Y ([] ++ pinsAt fp s7.heap) σ9 H' s' → (wipe σ (own.map (·.2))).length = σ9.length → (∀ (j : Nat) v, (wipe σ (own.map (·.2)))[j]? = some (some v) → σ9[j]? = some (some v)) → Nx H' → ∃ m, m < n ∧ out m s' := fun {σ9 s' H'} I' hl hk nx => by
        obtain ⟨m', hm, w'⟩ := hNx H' nx
        have pin : ∀ b ∈ fp, ∀ o, s7.heap.get? b = some o → s'.heap.get? b = some o ∧ H' b = none := fun b hb o e =>
          let z := I'.pin (b, o) (List.mem_append_right _ (List.mem_append_right _ (mem_pinsAt hb e)))
          ⟨z.1, z.2.1⟩
        refine ⟨m', hm, i + 1, H', (I'.unpinned (pins := [])).weak hl hk, T.keep _ _ _ st7 fun b hb o e => (pin b hb o e).1, fun b hb => ?_, w'⟩
        obtain ⟨o, e, _⟩ := T.obj _ _ st7 b hb
        exact (pin b hb o e).2
      have hl8 : (wipe σ (own.map (·.2))).length = σ8.length := by
        rw [← hw8, wipe_length]
      have hk8 : ∀ (j : Nat) v, (wipe σ (own.map (·.2)))[j]? = some (some v) → σ8[j]? = some (some v) := fun j v e => by
        rw [← hw8] at e
        exact (wipe_some e).1
      have hk9 : ∀ (j : Nat) v, (wipe σ (own.map (·.2)))[j]? = some (some v) → (wipe σ8 vs1)[j]? = some (some v) := fun j v e => by
        rw [← hw8] at e
        obtain ⟨e1, e2⟩ := wipe_some e
        rw [wipe_out fun z => e2 (hv j z)]
        exact e1
      cases b with
      | false =>
        simp only [Bool.false_eq_true, if_false] at q9 ⊢
        exact fin I9 hl8 hk8 q9
      | true =>
        simp only [if_true] at q9 ⊢
        refine thnF (pi1.run _ s9 σ8 H9 _ I9 q9) fun xv s10 hx => thnF hx fun itv s11 h11 => ?_
        obtain ⟨it1, fp1, tn1, J1, H11, e1, I11, T1, st11, f11, W1, ⟨m1, w1⟩, turn1⟩ := h11
        subst e1
        have stat1 : ∀ {H' : Hp}, (∀ b ∈ fp1, H' b = none) → ∀ b ∈ fp1, FpOk Y ([] ++ pinsAt fp s7.heap) H' b := fun hn b hb => ⟨hn b hb, (f11 b hb).2⟩
        let inn : Nat → Shared → Prop := fun k s' => ∃ j H', Inv Y ([] ++ pinsAt fp s7.heap) (wipe σ8 vs1) H' s' ∧ tn1 j s'.heap ∧ (∀ b ∈ fp1, H' b = none) ∧ W1 j k H'
        have loop1 : codeAny (model X.prog X.w) X.A (.compLoop (sc2 elt tg iter ifs tg1 iter1 ifs1 scope pos) 1 (.ref it1) (.ref D) ce) (fun r s' => match r with
            | .ok _ => ∃ m, m < n ∧ out m s'
            | .error _ => False) s11 := by
          refine loop_in inn ?_ m1 ⟨0, H11, I11.weak (wipe_length _ _) (fun j v e => (wipe_some e).1), st11, fun b hb => (f11 b hb).1, w1⟩
          rintro k s12 ⟨j, H12, I12, st12, n12, w12⟩
          rcases turn1 j k H12 w12 with ⟨stop1, nx1⟩ | ⟨go1, Nx1, hNx1, step1⟩
          · refine thnF (T1.done Y rfl rfl rfl hc j _ s12 (wipe σ8 vs1) H12 (fun _ _ => False) I12 (stat1 n12) st12 stop1) fun r s13 ⟨hr, I13⟩ => ?_
            subst hr
            exact fin I13 (hl8.trans (wipe_length σ8 vs1).symm) hk9 nx1
          · refine thnF (T1.item Y rfl rfl rfl hc j _ s12 (wipe σ8 vs1) H12 (fun _ _ => False) I12 (stat1 n12) st12 go1) fun r s13 ⟨u1, hr, h13⟩ => ?_
            subst hr
            refine thnF h13 fun _ s14 ⟨x1, H14, I14, r14, y14, st14, n14⟩ => ?_
            have I14' := I14.pinned (stat1 n14) (T1.obj _ _ st14)
            refine thnF (pg1.run _ s14 (wipe σ8 vs1) H14 x1 u1 _ I14' r14 (step1 x1 H14 y14)) fun _ s15 ⟨σ15, H15, I15, hw15, q15⟩ => ?_
            refine thnF (pt1.run _ s15 σ15 H15 _ I15 q15) fun b1 s16 ⟨H16, I16, q16⟩ => ?_
            have fin1 : ∀ {s' : Shared} {H' : Hp}, Inv Y (([] ++ pinsAt fp s7.heap) ++ pinsAt fp1 s14.heap) σ15 H' s' → Nx1 H' → ∃ m, m < k ∧ inn m s' := fun {s' H'} I' nx => by
              obtain ⟨m', hm, w'⟩ := hNx1 H' nx
              have pin : ∀ b ∈ fp1, ∀ o, s14.heap.get? b = some o → s'.heap.get? b = some o ∧ H' b = none := fun b hb o e =>
                let z := I'.pin (b, o) (List.mem_append_right _ (List.mem_append_right _ (mem_pinsAt hb e)))
                ⟨z.1, z.2.1⟩
              refine ⟨m', hm, j + 1, H', I'.unpinned.weak (by rw [← hw15, wipe_length]) (fun j v e => by
                rw [← hw15] at e; exact (wipe_some e).1), T1.keep _ _ _ st14 fun b hb o e => (pin b hb o e).1, fun b hb => ?_, w'⟩
              obtain ⟨o, e, _⟩ := T1.obj _ _ st14 b hb
              exact (pin b hb o e).2
            cases b1 with
            | false =>
              simp only [Bool.false_eq_true, if_false] at q16 ⊢
              exact fin1 I16 q16
            | true =>
              simp only [if_true] at q16 ⊢
              refine thnF (pe.run _ s16 σ15 H16 _ I16 q16) fun z s17 ⟨yv, H17, I17, r17, kt, ks, ey, hD17, room, nx⟩ => ?_
              subst ey
              obtain ⟨tk, rfl⟩ := (show ∃ tk, z = Value.str kt tk from r17)
              exact addTO (X := Y) I17 hD17 room fun s18 ks2 p I18 => fin1 I18 (nx ks2 p)
        exact start_in loop1 (T1.self X.A 0 _ _ _ st11 loop1)
  exact PpSet.codeAny_compStart_set loop (T.self X.A 0 _ _ _ st4 loop)
/-- as a value -/
theorem pe_sc2 {elt tg iter tg1 iter1 : Expr} {ifs ifs1 : List Expr} {scope : Scope} {own : List (Str × Nat)} {vs1 : List Nat} {pos : Pos} {wi wi1 : TI} {g g1 : TG} {tt tt1 : TT} {te : TE} (hc : X.calm = true) (hN : X.N.Nodup) (hi : PI X tg iter wi) (ok : BlkOk X.N X.env.scope scope own) (hv : ∀ i ∈ vs1, i ∈ own.map (·.2))
    (hg : Blk X scope fun Y => PG Y tg g) (ht : Blk X scope fun Y => PTs Y ifs tt) (hi1 : Blk X scope fun Y => PI Y tg1 iter1 wi1) (hg1 : Blk X scope fun Y => PG Y tg1 g1) (ht1 : Blk X scope fun Y => PTs Y ifs1 tt1) (he : Blk X scope fun Y => PE Y elt te)
    (hs : ∀ x, foldedSetIterable iter X.env x = pure x := by intro _; rfl) (hs1 : ∀ env x, foldedSetIterable iter1 env x = pure x := by intro _ _; rfl) : PE X (sc2 elt tg iter ifs tg1 iter1 ifs1 scope pos) (tSc2 X.w wi g tt wi1 g1 tt1 te (own.map (·.2)) vs1) := by
  refine ⟨fun pins s σ H Q I h => ?_⟩
  rw [PpSet.eval_SetComp]
  refine sc2_core hc hN I hi ok hv hg ht he hs hi1 hg1 ht1 hs1 h fun D C s' m H' I' q hn f => ⟨m, hn, fun h'' sb => ?_⟩
  obtain ⟨f0, f1, f2, f3, f4, f5⟩ := f
  exact ⟨.ref D, H', I'.turned (t' := s'.toks) (fun b o hb e => (sb.2 b hb).trans e) f0 f1 f3 f4 f5, rfl, q⟩
end
end DLS

/-! set(xs), xs a tuple or a list of texts -/
namespace DLS
open PySem PySem.Spec PyProof.Rows L2
abbrev newS (w : World) : Obj := { cls := .type "set", dict := none, data := .set #[] 0 (.fresh 0 0 (!w.params.followText "set-order")) }
/-- the texts ks are those of xs, each once -/
def Once (ks xs : List Str) : Prop := (∀ k, k ∈ ks ↔ k ∈ xs) ∧ ks.length ≤ xs.length ∧ ks.Nodup
theorem once_nil : Once [] [] := ⟨fun _ => Iff.rfl, Nat.le_refl _, List.nodup_nil⟩
theorem once_snoc {ks ks2 xs : List Str} {k : Str} (h : Once ks xs) (p : if k ∈ ks then ks2 = ks else ks2.Perm (k :: ks)) : Once ks2 (xs ++ [k]) := by
  by_cases z : k ∈ ks
  · rw [if_pos z] at p
    subst p
    refine ⟨fun j => ?_, by rw [List.length_append]; exact Nat.le_succ_of_le h.2.1, h.2.2⟩
    rw [h.1 j, List.mem_append, List.mem_singleton]
    exact ⟨.inl, fun q => q.elim id fun e => by rw [e]; exact (h.1 k).1 z⟩
  · rw [if_neg z] at p
    refine ⟨fun j => ?_, by rw [List.length_append, p.length_eq]; exact Nat.succ_le_succ h.2.1, p.nodup_iff.mpr (List.nodup_cons.mpr ⟨z, h.2.2⟩)⟩
    rw [p.mem_iff, List.mem_cons, h.1 j, List.mem_append, List.mem_singleton]
    exact Or.comm
section
variable {P : Program} {w : World} {A : Around} {E : Value → Shared → Prop} {s : Shared}
theorem setT_at {h : Heap} {a : Addr} (ho : h.get? a = some (newS w)) : SetT w h a [] := ⟨_, #[], 0, _, ho, ⟨rfl, rfl, rfl⟩, rfl, (fun e he => by simp at he), rfl, List.nodup_nil, by decide, by rfl, List.Pairwise.nil, by
    show _ ∨ (!w.params.followText "set-order") = true
    cases w.params.followText "set-order"
    · exact .inr rfl
    · exact .inl rfl⟩
theorem fill_txt {I : Addr} {fp wr : List Addr} {G : Array GenState → Array GenState → Prop} {n : Nat} {Pv : Nat → Value → Prop} {St : Nat → Shared → Prop} {R : Result → Shared → Prop} (W : WalksS P w A.in1 I fp wr G n Pv St) (S : Addr) (hSf : S ∉ fp) (xs : List Str)
    (hn : n = xs.length) (hb : xs.length + 1 < scanBound) (hval : ∀ i v, Pv i v → ∃ k t, xs[i]? = some k ∧ v = .str k t) :
    ∀ (m i : Nat) (s : Shared), n - i = m → i ≤ n → St i s → (∃ ks, Once ks (xs.take i) ∧ SetT w s.heap S ks) → (∀ s' ks, Moved (S :: wr) G s s' → Once ks xs → SetT w s'.heap S ks → R (.ok (.ret .none)) s') →
      codeAny (model P w) A (.builtin "set.update.loop" ⟨[.ref S, .ref I], []⟩) R s := by
  have nw : S ∉ wr := fun z => hSf (W.sub _ z)
  have sub : ∀ b ∈ wr, b ∈ S :: wr := fun b z => List.mem_cons_of_mem _ z
  intro m
  induction m with
  | zero =>
    intro i s hm hi hst ⟨ks, on, hS⟩ hR
    obtain rfl : i = n := by omega
    refine codeAny_builtin F.entry_set_update_loop ?_
    rw [Around.under_plainId F.plain_set_update_loop _]
    show wpAny _ A.in1 (pyNext (.ref I) >>= _) _ _ s
    refine wpAny_bind (W.done s _ _ hst fun s' mv => ?_)
    show wpAny _ A.in1 (ret Value.none) _ _ s'
    rw [List.take_of_length_le (by omega)] at on
    exact wpAny_pure (hR s' ks (mv.mono sub) on (hS.at fun o e => mv.heap S o nw e))
  | succ m ih =>
    intro i s hm hi hst ⟨ks, on, hS⟩ hR
    have lt : i < n := by omega
    refine codeAny_builtin F.entry_set_update_loop ?_
    rw [Around.under_plainId F.plain_set_update_loop _]
    show wpAny _ A.in1 (pyNext (.ref I) >>= _) _ _ s
    refine wpAny_bind (W.item i s _ _ lt hst fun v s' hP hst' mv => ?_)
    obtain ⟨z, t, hz, rfl⟩ := hval i v hP
    have S1 : SetT w s'.heap S ks := hS.at fun o e => mv.heap S o nw e
    have kl : ks.length ≤ i := Nat.le_trans on.2.1 (by rw [List.length_take]; omega)
    have tk : xs.take (i + 1) = xs.take i ++ [z] := by
      rw [List.take_add_one, hz]; rfl
    show wpAny _ A.in1 (holding [Value.str z t] (setAdd S (.str z t)) >>= _) _ _ s'
    refine wpAny_bind (wpAny_holding ?_)
    unfold setAdd
    refine wpAny_holding (wpAny_bind ((strKind P w).pyHash (k := z) (Froz.is_str z t) ?_))
    refine add_hashed (s := { s' with toks := s'.toks + 1 }) S1 (by omega) (fun hin => ?_) fun hout h' ks2 p sb S2 => ?_
    · have on2 : Once ks (xs.take (i + 1)) := by
        rw [tk]; exact once_snoc (ks2 := ks) on (by rw [if_pos hin])
      refine wpAny_pure ⟨plainId_quiet F.plain_set_update_loop _, ih (i + 1) _ (by omega) lt (W.frame _ s' _ _ hst' (Nat.le_succ _) fun b hb o e => e) ⟨ks, on2, S1⟩ fun s2 k2 mv2 o2 S3 => ?_⟩
      exact hR s2 k2 (Moved.trans W.gtrans ((mv.mono sub).then_heap (Nat.le_succ _) fun b o hb e => e) mv2) o2 S3
    · have on2 : Once ks2 (xs.take (i + 1)) := by
        rw [tk]; exact once_snoc (ks2 := ks2) on (by rw [if_neg hout]; exact p)
      refine wpAny_pure ⟨plainId_quiet F.plain_set_update_loop _, ih (i + 1) _ (by omega) lt (W.frame _ s' _ _ hst' (Nat.le_succ _) fun b hb o e => ?_) ⟨ks2, on2, S2⟩ fun s2 k2 mv2 o2 S3 => ?_⟩
      · rw [sb.2 b (fun z : b = S => hSf (by rw [← z]; exact hb))]
        exact e
      · refine hR s2 k2 (Moved.trans W.gtrans ((mv.mono sub).then_heap (Nat.le_succ _) fun b o hb e => ?_) mv2) o2 S3
        rw [sb.2 b (fun z : b = S => hb (by rw [z]; exact List.mem_cons_self))]
        exact e
theorem strs_get : ∀ {us : List Value} {xs : List Str}, StrsAre us xs → ∀ (i : Nat) (v : Value), us[i]? = some v → ∃ k t, xs[i]? = some k ∧ v = .str k t
  | _, _, .nil, _, _, h => by simp at h
  | _, _, .cons y t r, 0, v, h => by
    simp at h; subst h
    exact ⟨y, t, rfl, rfl⟩
  | _, _, .cons y t r, i + 1, v, h => by
    obtain ⟨k, u, h1, h2⟩ := strs_get r i v (by simpa using h)
    exact ⟨k, u, by simpa using h1, h2⟩
theorem strs_len {us : List Value} {xs : List Str} (h : StrsAre us xs) : us.length = xs.length := by
  induction h with
  | nil => rfl
  | cons _ _ _ ih => rw [List.length_cons, List.length_cons, ih]
theorem call_set_tupleT {l : Addr} {items : Array Value} (xs : List Str) {Q : Value → Shared → Prop} (hh : A.handled = none) (hl : s.heap.IsTuple l items) (hit : StrsAre items.toList xs) (hb : xs.length + 1 < scanBound)
    (h : ∀ (h' : Heap) (tk : Nat) (ks : List Str), SetT w h' s.heap.objs.size ks → Once ks xs → (∀ b o, s.heap.get? b = some o → h'.get? b = some o) → Q (.ref s.heap.objs.size) { s with heap := h', toks := tk }) :
    wpAny (model P w) A (call (.type "set") [.ref l]) Q E s := by
  have isz : items.size = xs.length := by
    rw [← strs_len hit, Array.length_toList]
  obtain ⟨c, tl, hmro⟩ := F.called_set.mro
  have hmade := F.called_set.made
  have hsub := F.called_set.sub
  refine wpAny_call (codeAny_of_tree ?_)
  show wpAny _ _ (callAny (.type "set") _) _ _ _
  refine wpAny_pure ⟨Code.quiet_builtin _ (by decide +kernel), codeAny_builtin F.entry_type_call ?_⟩
  rw [Around.under_plain (weight_type_call_type "set" [.ref l] []) rfl]
  have h1 := F.called_set.notType
  have h2 := F.called_set.canCreate
  have hct := F.typeCall_set_1 (.ref l)
  repeat (any_goals (first
    | assumption
    | wp_step))
  refine codeAny_mono (code_set_led1 (.ref l) (E := E) (Q₁ := fun obj s1 => obj = .ref s.heap.objs.size ∧ s1 = { s with heap := s.heap.push (newS w) })
    ⟨rfl, rfl⟩) fun r s1 hr => ?_
  cases r with
  | error e => exact hr
  | ok fl =>
    cases fl with
    | ret obj =>
      obtain ⟨rfl, rfl⟩ := hr
      have hS : (s.heap.push (newS w)).get? s.heap.objs.size = some (newS w) := Heap.get?_push_size _ rfl
      have hT : Shared.TypeIs { s with heap := s.heap.push (newS w) } (.ref s.heap.objs.size) "set" := ⟨_, hS, rfl⟩
      have hli := F.called_set.init.lookup
      have hbi := F.called_set.init.bind (.ref s.heap.objs.size)
      repeat (any_goals (first
        | assumption
        | wp_step))
      refine codeAny_mono (codeAny_call_builtin (R := wants (fun r s2 => r = .none ∧ ∃ h' tk ks, s2 = { s with heap := h', toks := tk } ∧ SetT w h' s.heap.objs.size ks ∧ Once ks xs ∧ (∀ b o, s.heap.get? b = some o → h'.get? b = some o)) E)
        F.called_set.init.plain F.entry_set_init (check_set_init_1 hT ?_)) fun r2 s2 hr2 => ?_
      · obtain ⟨ol, hol, hcl, nl, hdl⟩ := hl
        obtain ⟨ocls, odict, odata, oslots⟩ := ol
        simp only at hcl hdl
        subst hcl hdl
        have hol2 : (s.heap.push (newS w)).get? l = some { cls := .type "tuple", dict := odict, data := .seq items nl, slots := oslots } :=
          Heap.get?_push_of_some _ hol
        have q1 := F.sub_tuple_set
        have q2 := F.sub_tuple_frozenset
        have q3 : (Value.type "tuple" == Value.type "dict") = false := by decide
        have hl1 : (s.heap.push (newS w)).IsTuple l items := ⟨_, hol2, rfl, nl, rfl⟩
        unfold Builtin.«set.__init__» noKeywords Builtin.Frozenset.updateFrom
        generalize hPI : pyIter = PI
        wp_walk
        subst hPI
        refine wpAny_pyIter_tuple hl1 ?_
        refine wpAny_bind (wpAny_runValue ?_)
        have lS : l < s.heap.objs.size := Heap.lt_size hol
        have h3 : A.in1.in1.in1.handled = none := by simp [hh]
        have nI : l ≠ (s.heap.push (newS w)).objs.size := by
          rw [Heap.size_push]
          exact Nat.ne_of_lt (Nat.lt_succ_of_lt lS)
        have nS : s.heap.objs.size ∉ [(s.heap.push (newS w)).objs.size, l] := by
          rw [Heap.size_push]
          simp only [List.mem_cons, List.mem_singleton, List.not_mem_nil, or_false, not_or]
          exact ⟨Nat.ne_of_lt (Nat.lt_succ_self _), Nat.ne_of_gt lS⟩
        have val : ∀ (i : Nat) (v : Value), items[i]? = some v → ∃ k t, xs[i]? = some k ∧ v = .str k t := fun i v hv =>
          strs_get hit i v (by rw [Array.getElem?_toList]; exact hv)
        refine fill_txt ((Walks.tuple h3 _ l nI items).toS) s.heap.objs.size nS xs isz hb val (items.size - 0) 0 _ (by omega) (Nat.zero_le _)
          ⟨⟨_, Heap.get?_push_size _ rfl, rfl, rfl⟩, (hl1.push _)⟩ ⟨[], once_nil, setT_at (Heap.get?_push_of_some _ hS)⟩ ?hR
        case hR =>
          intro s' ks mv on S1
          obtain ⟨h', g2, d', tk', os'⟩ := s'
          have eg : g2 = s.gens := mv.gens
          have ed : d' = s.drawn := mv.drawn
          have eo : os' = s.os := mv.os
          subst eg ed eo
          show wpAny _ _ _ _ _ _
          refine wpAny_pure ?_
          show wpAny _ _ (ret Value.none) _ _ _
          refine wpAny_pure ⟨rfl, h', tk', ks, rfl, S1, on, fun b o e => ?_⟩
          have b0 : b < s.heap.objs.size := Heap.lt_size e
          have b2 : b ≠ (s.heap.push (newS w)).objs.size := by
            rw [Heap.size_push]
            exact Nat.ne_of_lt (Nat.lt_succ_of_lt b0)
          exact mv.heap b o (by
            simp only [List.mem_cons, List.mem_singleton, List.not_mem_nil, or_false, not_or]
            exact ⟨Nat.ne_of_lt b0, b2⟩) (Heap.get?_push_of_some _ (Heap.get?_push_of_some _ e))
      · cases r2 with
        | error e => exact hr2
        | ok fl2 =>
          cases fl2 with
          | ret r =>
            obtain ⟨rfl, h', tk, ks, rfl, S1, on, hk⟩ := hr2
            repeat (any_goals (first
              | assumption
              | wp_step))
            exact h _ _ _ S1 on hk
          | _ => exact hr2.elim
    | _ => exact hr.elim
theorem call_set_listT {l : Addr} {items : Array Value} (xs : List Str) {Q : Value → Shared → Prop} (hh : A.handled = none) (hl : s.heap.IsList l items) (hit : StrsAre items.toList xs) (hb : xs.length + 1 < scanBound)
    (h : ∀ (h' : Heap) (tk : Nat) (ks : List Str), SetT w h' s.heap.objs.size ks → Once ks xs → (∀ b o, s.heap.get? b = some o → h'.get? b = some o) → Q (.ref s.heap.objs.size) { s with heap := h', toks := tk }) :
    wpAny (model P w) A (call (.type "set") [.ref l]) Q E s := by
  have isz : items.size = xs.length := by
    rw [← strs_len hit, Array.length_toList]
  obtain ⟨c, tl, hmro⟩ := F.called_set.mro
  have hmade := F.called_set.made
  have hsub := F.called_set.sub
  refine wpAny_call (codeAny_of_tree ?_)
  show wpAny _ _ (callAny (.type "set") _) _ _ _
  refine wpAny_pure ⟨Code.quiet_builtin _ (by decide +kernel), codeAny_builtin F.entry_type_call ?_⟩
  rw [Around.under_plain (weight_type_call_type "set" [.ref l] []) rfl]
  have h1 := F.called_set.notType
  have h2 := F.called_set.canCreate
  have hct := F.typeCall_set_1 (.ref l)
  repeat (any_goals (first
    | assumption
    | wp_step))
  refine codeAny_mono (code_set_led1 (.ref l) (E := E) (Q₁ := fun obj s1 => obj = .ref s.heap.objs.size ∧ s1 = { s with heap := s.heap.push (newS w) })
    ⟨rfl, rfl⟩) fun r s1 hr => ?_
  cases r with
  | error e => exact hr
  | ok fl =>
    cases fl with
    | ret obj =>
      obtain ⟨rfl, rfl⟩ := hr
      have hS : (s.heap.push (newS w)).get? s.heap.objs.size = some (newS w) := Heap.get?_push_size _ rfl
      have hT : Shared.TypeIs { s with heap := s.heap.push (newS w) } (.ref s.heap.objs.size) "set" := ⟨_, hS, rfl⟩
      have hli := F.called_set.init.lookup
      have hbi := F.called_set.init.bind (.ref s.heap.objs.size)
      repeat (any_goals (first
        | assumption
        | wp_step))
      refine codeAny_mono (codeAny_call_builtin (R := wants (fun r s2 => r = .none ∧ ∃ h' tk ks, s2 = { s with heap := h', toks := tk } ∧ SetT w h' s.heap.objs.size ks ∧ Once ks xs ∧ (∀ b o, s.heap.get? b = some o → h'.get? b = some o)) E)
        F.called_set.init.plain F.entry_set_init (check_set_init_1 hT ?_)) fun r2 s2 hr2 => ?_
      · obtain ⟨ol, hol, hcl, nl, hdl⟩ := hl
        obtain ⟨ocls, odict, odata, oslots⟩ := ol
        simp only at hcl hdl
        subst hcl hdl
        have hol2 : (s.heap.push (newS w)).get? l = some { cls := .type "list", dict := odict, data := .seq items nl, slots := oslots } :=
          Heap.get?_push_of_some _ hol
        have q1 := F.sub_list_set
        have q2 := F.sub_list_frozenset
        have q3 : (Value.type "list" == Value.type "dict") = false := by decide
        have hl1 : (s.heap.push (newS w)).IsList l items := ⟨_, hol2, rfl, nl, rfl⟩
        unfold Builtin.«set.__init__» noKeywords Builtin.Frozenset.updateFrom
        generalize hPI : pyIter = PI
        wp_walk
        subst hPI
        refine wpAny_pyIter_list hl1 ?_
        refine wpAny_bind (wpAny_runValue ?_)
        have lS : l < s.heap.objs.size := Heap.lt_size hol
        have h3 : A.in1.in1.in1.handled = none := by simp [hh]
        have nI : l ≠ (s.heap.push (newS w)).objs.size := by
          rw [Heap.size_push]
          exact Nat.ne_of_lt (Nat.lt_succ_of_lt lS)
        have nS : s.heap.objs.size ∉ [(s.heap.push (newS w)).objs.size, l] := by
          rw [Heap.size_push]
          simp only [List.mem_cons, List.mem_singleton, List.not_mem_nil, or_false, not_or]
          exact ⟨Nat.ne_of_lt (Nat.lt_succ_self _), Nat.ne_of_gt lS⟩
        have val : ∀ (i : Nat) (v : Value), items[i]? = some v → ∃ k t, xs[i]? = some k ∧ v = .str k t := fun i v hv =>
          strs_get hit i v (by rw [Array.getElem?_toList]; exact hv)
        refine fill_txt ((Walks.list h3 _ l nI items).toS) s.heap.objs.size nS xs isz hb val (items.size - 0) 0 _ (by omega) (Nat.zero_le _)
          ⟨⟨_, Heap.get?_push_size _ rfl, rfl, rfl⟩, (hl1.push _)⟩ ⟨[], once_nil, setT_at (Heap.get?_push_of_some _ hS)⟩ ?hR
        case hR =>
          intro s' ks mv on S1
          obtain ⟨h', g2, d', tk', os'⟩ := s'
          have eg : g2 = s.gens := mv.gens
          have ed : d' = s.drawn := mv.drawn
          have eo : os' = s.os := mv.os
          subst eg ed eo
          show wpAny _ _ _ _ _ _
          refine wpAny_pure ?_
          show wpAny _ _ (ret Value.none) _ _ _
          refine wpAny_pure ⟨rfl, h', tk', ks, rfl, S1, on, fun b o e => ?_⟩
          have b0 : b < s.heap.objs.size := Heap.lt_size e
          have b2 : b ≠ (s.heap.push (newS w)).objs.size := by
            rw [Heap.size_push]
            exact Nat.ne_of_lt (Nat.lt_succ_of_lt b0)
          exact mv.heap b o (by
            simp only [List.mem_cons, List.mem_singleton, List.not_mem_nil, or_false, not_or]
            exact ⟨Nat.ne_of_lt b0, b2⟩) (Heap.get?_push_of_some _ (Heap.get?_push_of_some _ e))
      · cases r2 with
        | error e => exact hr2
        | ok fl2 =>
          cases fl2 with
          | ret r =>
            obtain ⟨rfl, h', tk, ks, rfl, S1, on, hk⟩ := hr2
            repeat (any_goals (first
              | assumption
              | wp_step))
            exact h _ _ _ S1 on hk
          | _ => exact hr2.elim
    | _ => exact hr.elim
end
end DLS

/-! s.discard(k), s a set of texts -/
namespace DLS
open PySem PySem.Spec PyProof.Rows L2
theorem erase_list {α : Type} (xs : Array α) (i : Nat) : (SetTable.eraseAt xs i).toList = xs.toList.eraseIdx i := by
  unfold SetTable.eraseAt
  rw [Array.toList_append, Array.toList_extract, Array.toList_extract, List.eraseIdx_eq_take_drop_succ]
  simp [List.extract_eq_drop_take]
  exact List.take_of_length_le (by rw [List.length_drop, Array.length_toList]; omega)
theorem drop_ris {t : SetTable} (r : Ris t.place.toList) (i : Nat) : Ris (t.drop i).place.toList := by
  unfold SetTable.drop
  cases e : t.place[i]? with
  | none => exact r
  | some j =>
    show Ris (SetTable.eraseAt t.place i).toList
    rw [erase_list]
    exact List.Pairwise.sublist (List.eraseIdx_sublist _ _) r
theorem drop_led {t : SetTable} (i : Nat) : (t.drop i).led = t.led := by
  unfold SetTable.drop
  cases e : t.place[i]? <;> rfl
theorem drop_fits {t : SetTable} {n i : Nat} (f : t.fits (n + 1) = true) (hi : i < n + 1) : (t.drop i).fits n = true := by
  have f2 : (t.place.size == n + 1 && decide (t.place.size + t.dummies.size ≤ t.mask)) = true := f
  obtain ⟨f3, f4⟩ := Bool.and_eq_true_iff.mp f2
  have e1 : t.place.size = n + 1 := beq_iff_eq.mp f3
  have e2 : t.place.size + t.dummies.size ≤ t.mask := of_decide_eq_true f4
  unfold SetTable.drop
  have hj : t.place[i]? = some (t.place[i]'(by omega)) := Array.getElem?_eq_getElem _
  rw [hj]
  show (((SetTable.eraseAt t.place i).size == n) && decide ((SetTable.eraseAt t.place i).size + (SetTable.insertAt t.dummies _ _).size ≤ t.mask)) = true
  have s1 : (SetTable.eraseAt t.place i).size = n := by
    rw [← Array.length_toList, erase_list, List.length_eraseIdx, if_pos (by rw [Array.length_toList]; omega), Array.length_toList]; omega
  have s2 : ∀ (xs : Array Nat) (p x : Nat), (SetTable.insertAt xs p x).size = xs.size + 1 := fun xs p x => by
    have q := (SetTable.insertAt_perm xs p x).length_eq
    rw [Array.length_toList, Array.length_toList, Array.size_push] at q
    exact q
  rw [s1, s2, beq_self_eq_true, Bool.true_and]
  exact decide_eq_true (by omega)
section
variable {P : Program} {w : World} {A : Around} {E : Value → Shared → Prop} {s : Shared} {a : Addr} {ks : List Str}
theorem find_txt {k : Str} {tk : Tok} {Q : Option Nat → Shared → Prop} {o : Obj} {es : Array Ent} {ep : Nat} {t : SetTable} (ho : s.heap.get? a = some o) (hd : o.data = .set es ep t) (T : TxS w es t ks)
    (h1 : k ∉ ks → Q none s) (h2 : ∀ j e, es.toList[j]? = some e → txt e = k → Q (some j) s) : wpAny (model P w) A (setFind a (.str k tk) ((strKind P w).hash k)) Q E s := by
  have isk : (strKind P w).is k (.str k tk) = true := Froz.is_str k tk
  have el : ElemsOf (strKind P w) es.toList := T.elems
  unfold setFind setFindIn
  refine wpAny_bind (wpAny_setState_of ho hd T.fits ?_)
  dsimp only
  rw [byScan_of rfl T.few el]
  simp only [↓reduceIte]
  refine wpAny_bind (wpAny_rule (wpAny_bind (wpAny_setScan_of isk ho hd T.fits el ?_)))
  cases hf : List.findIdx? (fun e => (strKind P w).is k e.2) es.toList with
  | none =>
    dsimp only
    refine wpAny_pure (h1 fun z => ?_)
    obtain ⟨e, he, q⟩ := (T.mem (P := P) k).1 z
    have c := List.findIdx?_eq_none_iff.mp hf e he
    rw [q] at c; cases c
  | some j =>
    dsimp only
    obtain ⟨hj, pj, _⟩ := List.findIdx?_eq_some_iff_getElem.mp hf
    rw [Nat.zero_add]
    exact wpAny_pure (h2 j es.toList[j] (List.getElem?_eq_getElem hj) ((is_txt (T.good _ (List.getElem_mem hj)) k).1 pj))
theorem discard_txt {k : Str} {tk : Tok} {Q : Value → Shared → Prop} (R : SetT w s.heap a ks)
    (hQ : ∀ h' ks2, (∀ j, j ∈ ks2 ↔ j ∈ ks ∧ j ≠ k) → ks2.length ≤ ks.length → Heap.SameBut a s.heap h' → SetT w h' a ks2 → Q .none { s with heap := h', toks := s.toks + 1 }) :
    wpAny (model P w) A (call (.builtin "set.discard") [.ref a, .str k tk]) Q E s := by
  have S0 : s.heap.SetOf (strKind P w) a (fun k => decide (k ∈ ks)) ks.length := R.setOf
  obtain ⟨o, es, ep, t, ho, hex, hd, T⟩ := R
  refine wpAny_call_entry F.slot_set_discard S0.typeIs F.entry_set_discard ?_ (F.args_set_discard_2 _ _)
  unfold Builtin.«set.discard» Builtin.Frozenset.oneOther
  simp only [List.isEmpty_nil, bind_assoc]
  unfold Builtin.Frozenset.addrOf Builtin.Frozenset.withSetAsKey setDiscard
  refine wpAny_bind (wpAny_pure ?_)
  try dsimp only
  refine wpAny_bind (wpAny_pure ?_)
  try dsimp only
  refine wpAny_bind (wpAny_tryCatch (wpAny_holding (wpAny_bind ((strKind P w).pyHash (Froz.is_str k tk) ?_))))
  unfold setDiscardHashed
  refine wpAny_bind (find_txt (s := { s with toks := s.toks + 1 }) ho hd T (fun nk => ?_) fun j e hj hk => ?_)
  · dsimp only
    refine wpAny_pure ?_
    show wpAny _ _ (ret Value.none) _ _ _
    exact wpAny_pure ⟨_, rfl, hQ s.heap ks (fun i => ⟨fun q => ⟨q, fun z => nk (z ▸ q)⟩, fun q => q.1⟩) (Nat.le_refl _) (Heap.SameBut.refl a s.heap) ⟨o, es, ep, t, ho, hex, hd, T⟩⟩
  · dsimp only
    have lt : j < es.toList.length := (List.getElem?_eq_some_iff.mp hj).1
    rw [Array.length_toList] at lt
    refine wpAny_bind (wpAny_setState_of (s := { s with toks := s.toks + 1 }) ho hd T.fits ?_)
    dsimp only
    have el : (SetTable.eraseAt es j).toList = es.toList.eraseIdx j := erase_list es j
    have sz : (SetTable.eraseAt es j).size + 1 = es.size := by
      rw [← Array.length_toList, el, List.length_eraseIdx, if_pos (by rw [Array.length_toList]; exact lt), Array.length_toList]; omega
    have sub := List.eraseIdx_sublist es.toList j
    have T2 : TxS w (SetTable.eraseAt es j) (t.drop j) ((es.toList.eraseIdx j).map txt) := {
      good := (fun x hx => T.good x (sub.subset (by rw [el] at hx; exact hx)))
      keys := by rw [el]
      nd := (List.Pairwise.sublist (sub.map txt) (by rw [T.keys]; exact T.nd))
      few := (by have := T.few; omega)
      fits := drop_fits (by rw [sz]; exact T.fits) (by omega)
      ris := drop_ris T.ris j
      led := (T.led.imp id fun z => by rw [drop_led]; exact z) }
    refine wpAny_bind (wpAny_storeSet_of (s := { s with toks := s.toks + 1 }) ho hd ?_ (fits_of_scanBound T2.few))
    refine wpAny_bind (wpAny_point (wpAny_pure ?_))
    show wpAny _ _ (ret Value.none) _ _ _
    have nd2 : (es.toList.map txt).Nodup := by rw [T.keys]; exact T.nd
    have key : (es.toList.eraseIdx j).map txt = ks.eraseIdx j := by
      rw [← T.keys, List.eraseIdx_eq_take_drop_succ, List.eraseIdx_eq_take_drop_succ, List.map_append, List.map_take, List.map_drop]
    have kj : ks[j]? = some k := by
      rw [← T.keys, List.getElem?_map, hj, ← hk]; rfl
    refine wpAny_pure ⟨_, rfl, hQ _ ((es.toList.eraseIdx j).map txt) (fun i => ?_) ?_ (Heap.SameBut.update s.heap a _) ⟨_, _, _, _, put_at ho hd, hex, rfl, T2⟩⟩
    · rw [key]
      have pm := erase_perm ks j k kj
      have nd3 : (k :: ks.eraseIdx j).Nodup := pm.nodup_iff.mpr T.nd
      rw [← pm.mem_iff, List.mem_cons]
      constructor
      · intro q
        exact ⟨.inr q, fun z => (List.nodup_cons.mp nd3).1 (z ▸ q)⟩
      · rintro ⟨q | q, ne⟩
        · exact absurd q ne
        · exact q
    · rw [key]
      exact (List.eraseIdx_sublist ks j).length_le
end
end DLS

/-! sets of texts: the rules of set(xs), s.discard(k), k in s -/
namespace DLS
open PySem PySem.Spec PyProof.Rows L2
section
variable {X : Cx} {pins : List (Addr × Obj)} {σ : L2.St} {H : Hp} {s : Shared} {a : Addr} {ks : List Str}
/-- set(xs), xs a tuple or a list of texts -/
def rSetT (K : PySem.W.Frag) (w : World) : List V → Hp → VK → Prop := fun vs H Q => ∃ (p : Addr) (xs : List Str), vs = [V.ref p] ∧ (SqT K H p (xs.map V.str) ∨ SqL K H p (xs.map V.str)) ∧ xs.length + 1 < scanBound ∧
  ∀ (a : Addr) (ks : List Str), Once ks xs → H a = none → Q (.ref a) (upd H a (SetTO w a ks))
theorem cr_setT (hc : X.calm = true) : CallR X (.type "set") (rSetT X.K X.w) := by
  intro pins s σ H vs us Q I r h
  obtain ⟨p, xs, rfl, hq, hb, q⟩ := h
  rw [Vals.ref1 r]
  have fin : ∀ (h' : Heap) (tk : Nat) (ks : List Str), SetT X.w h' s.heap.objs.size ks → Once ks xs → (∀ b o, s.heap.get? b = some o → h'.get? b = some o) → EP X pins σ Q (.ref s.heap.objs.size) { s with heap := h', toks := tk } := fun h' tk ks hS on k =>
    ⟨.ref _, _, I.laid (t' := tk) k (Nat.le_refl _) (setTO_new hS), rfl, q _ ks on (I.hok.fresh (Nat.le_refl _))⟩
  rcases hq with hq | hq
  · obtain ⟨its, rv, pl, hz⟩ := I.tuple hq
    exact call_set_tupleT xs (I.ok.hd hc) pl (by simpa using strsAre_of rv) hb fin
  · obtain ⟨its, rv, pl, hz⟩ := I.list hq
    exact call_set_listT xs (I.ok.hd hc) pl.isList (by simpa using strsAre_of rv) hb fin
/-- s.discard(k) -/
def rDisT (w : World) : V → List V → Hp → VK → Prop := fun x xs H Q => ∃ (a : Addr) (k : Str) (ks : List Str), x = V.ref a ∧ xs = [V.str k] ∧ H a = some (SetTO w a ks) ∧
  ∀ ks2, ks2.Perm (ks.filter fun j => decide (j ≠ k)) → Q .non (upd H a (SetTO w a ks2))
theorem mt_disT : MtR X "set.discard" (rDisT X.w) := by
  intro pins s σ H x xs v us Q I rx rxs h
  obtain ⟨a, k, ks, rfl, rfl, ha, q⟩ := h
  cases rx
  cases rxs with
  | cons ry rt =>
    cases rt
    obtain ⟨tk, rfl⟩ := ry
    refine discard_txt (setTO_get I ha) fun h' ks2 hm hl sb new => ?_
    have he : ∃ u, h'.get? a = some u := by
      have ⟨o, _, _, _, ho, _⟩ := new
      exact ⟨o, ho⟩
    exact ⟨.non, _, I.write (e := a) (t' := s.toks + 1) (by rw [ha]; trivial) (.inl rfl) (fun b u hb hu => (sb.2 b hb).trans hu) he (setTO_new new), rfl, q ks2 (by
      have ⟨o1, es1, ep1, t1, ho1, he1, hd1, T1⟩ := new
      have ⟨o0, es0, ep0, t0, ho0, he0, hd0, T0⟩ := setTO_get I ha
      refine (List.perm_ext_iff_of_nodup T1.nd (T0.nd.sublist List.filter_sublist)).2 fun j => ?_
      rw [hm j, List.mem_filter, decide_eq_true_iff])⟩
/-- sorted texts of the same members are the same -/
theorem sorted_mem {ms ns : List Str} (h1 : ms.Perm ns) : ∀ k, k ∈ ms ↔ k ∈ ns := fun k => h1.mem_iff
end
end DLS

/-! sorted of a tuple of texts -/
namespace DLS
open PySem PySem.Spec PyProof.Rows L2
section
variable {prog : Program} {w : World} {A : Around} {E : Value → Shared → Prop} {s : Shared}
theorem collect_tup {l : Addr} {vs : List Value} {Q : List Value → Shared → Prop} (hl : s.heap.IsTuple l vs.toArray)
    (h : Q vs { s with heap := (s.heap.push (seqObj "list" #[] 0)).update s.heap.objs.size (Obj.mapSeq (· ++ vs.toArray)) }) (hsz : vs.length ≤ sizeLine) :
    wpAny (model prog w) A (collect (.ref l)) Q E s := by
  obtain ⟨o, ho, hc, n, hd⟩ := id hl
  unfold collect
  refine wpAny_bind (wpAny_runValue (codeAny_builtin entry_proto_collect' ?_))
  show wpAny _ _ (do again (.builtin "list.__iadd__" ⟨[← newList [], .ref l], []⟩)) _ _ s
  refine wpAny_bind (wpAny_newList (wpAny_pure ⟨Code.quiet_builtin _ (by decide +kernel), codeAny_builtin entry_list_iadd' ?_⟩))
  show wpAny _ _ (Builtin.List.listExtendWith (.ref s.heap.objs.size) (.ref l) (.ref s.heap.objs.size)) _ _ { s with heap := s.heap.push (seqObj "list" #[] 0) }
  unfold Builtin.List.listExtendWith
  have ho' : (s.heap.push (seqObj "list" #[] 0)).get? l = some o := Heap.get?_push_of_some _ ho
  refine wpAny_bind (wpAny_typeOf (T := "tuple") ⟨o, ho', hc⟩ ?_)
  have ht : (Value.type "tuple" == Value.type "tuple") = true := by rfl
  rw [if_pos (by rw [ht]; simp)]
  refine wpAny_bind (listItems_at ho' hd ?_)
  refine wpAny_bind (listItems_at (xs := #[]) (n := 0) (Heap.get?_push_size _ rfl) rfl ?_)
  rw [if_neg (by simp)]
  refine wpAny_bind (listUpdate_at (xs := #[]) (n := 0) (Heap.get?_push_size _ rfl) rfl ?_ (Nat.zero_le _) (by show (#[] ++ vs.toArray).size ≤ sizeLine + 1; simp only [Array.size_append, List.size_toArray, List.length_nil]; omega))
  refine wpAny_pure ?_
  show wpAny (model prog w) A (do
      let o ← load s.heap.objs.size
      match o.data with
      | .seq xs _ => pure xs.toList
      | _ => unsupported "internal:collect") Q E { s with heap := (s.heap.push (seqObj "list" #[] 0)).update s.heap.objs.size (Obj.mapSeq (· ++ vs.toArray)) }
  refine wpAny_bind (wpAny_load (get?_update_seq (Heap.get?_push_size _ rfl) _) ?_)
  show wpAny _ _ (pure ((#[] : Array Value) ++ vs.toArray).toList) Q E _
  rw [show ((#[] : Array Value) ++ vs.toArray).toList = vs by simp]
  exact wpAny_pure h
theorem sorted_strsT {l : Addr} {vs : List Value} {ss : List Str} {Q : Value → Shared → Prop} (hl : s.heap.IsTuple l vs.toArray) (hS : StrsAre vs ss) (h64 : vs.length < 64)
    (h : ∀ (out : Array Value) (ss' : List Str), StrsAre out.toList ss' → ss'.Perm ss → sortedS ss' = true → Q (.ref (s.heap.objs.size + 1)) { s with heap := sortedAll s.heap vs out }) :
    wpAny (model prog w) A (call (.builtin "sorted") [.ref l]) Q E s := by
  refine Calls.call_function_entry kind_sorted plain_sorted entry_sorted (args_sorted1 _) ?_
  unfold Builtin.«sorted»
  refine wpAny_bind (m := checkCount "sorted" 1 1 _) (wpAny_pure ?_)
  refine wpAny_bind (collect_tup hl ?_ (by rw [sizeLine_eq]; omega))
  refine wpAny_bind (wpAny_newList ?_ (by rw [sizeLine_eq]; omega))
  have hsz : ((s.heap.push (seqObj "list" #[] 0)).update s.heap.objs.size (Obj.mapSeq (· ++ vs.toArray))).objs.size = s.heap.objs.size + 1 := by
    rw [Heap.size_update, size_push']
  have hoL : (((s.heap.push (seqObj "list" #[] 0)).update s.heap.objs.size (Obj.mapSeq (· ++ vs.toArray))).push (seqObj "list" vs.toArray 0)).get? (s.heap.objs.size + 1) = some (seqObj "list" vs.toArray 0) := by
    rw [← hsz]; exact Heap.get?_push_size _ rfl
  show wpAny _ _ _ _ _ { s with heap := ((s.heap.push (seqObj "list" #[] 0)).update s.heap.objs.size (Obj.mapSeq (· ++ vs.toArray))).push (seqObj "list" vs.toArray 0) }
  rw [hsz]
  refine wpAny_bind (wpAny_holding (wpAny_call_entry slot_list_sort ⟨_, hoL, rfl⟩ entry_list_sort (list_sort_treeK strKind_oneLt hoL hS.keysOf (fun v₁ v₂ rest e => keyKind_strs (by rw [← e]; exact hS)) h64 fun st' a1 a2 => ⟨_, rfl, ?_⟩) (args_list_sort _)))
  obtain ⟨ss', h1, h2, h3⟩ := sorted_out_str hS a1 a2
  exact wpAny_pure ⟨_, rfl, h _ ss' h1 h2 h3⟩
end
def rSortedU (K : PySem.W.Frag) : List V → Hp → VK → Prop := fun vs H Q => ∃ (a : Addr) (xs : List Str), vs = [V.ref a] ∧ SqT K H a (xs.map V.str) ∧ xs.length < 64 ∧
  ∀ (ys : List Str) (p : Addr), ys.Perm xs → sortedS ys = true → H p = none → Q (.ref p) (upd H p (.lst (ys.map V.str)))
theorem cr_sortedU {X : Cx} : CallR X (.builtin "sorted") (rSortedU X.K) := by
  intro pins s σ H vs us Q I r h
  obtain ⟨a, xs, rfl, hs, h64, q⟩ := h
  obtain ⟨its, rv, hl, _⟩ := I.tuple hs
  rw [Vals.ref1 r]
  have hlen0 := rv.length
  rw [List.length_map] at hlen0
  refine sorted_strsT (show s.heap.IsTuple a its.toArray from hl) rv.strs (by rw [← hlen0]; exact h64) fun out ys h1 h2 h3 => ?_
  obtain ⟨ep, he'⟩ := PyProof.Rows.sortedAll_at s.heap its out
  have hlen : (ys.map V.str).length ≤ sizeLine := by rw [List.length_map, h2.length_eq]; exact small64 h64
  exact ⟨.ref _, upd H (s.heap.objs.size + 1) (.lst (ys.map V.str)), I.laid (t' := s.toks) (fun _ _ => PyProof.Rows.sortedAll_old) (Nat.le_succ _) ⟨hlen, out.toList, ep, vals_of_strs h1, he'⟩, rfl, q ys _ h2 h3 (I.hok.fresh (Nat.le_succ _))⟩
end DLS

/-! sets whose members are tuples of numbers, truth values, texts, None and of such tuples; the steps follow those of the library's sets of tuples of ints -/
namespace DLN
open PySem PySem.Spec PyProof.Rows L2
mutual
def noTxt : NestedKey → Bool
  | .none => true
  | .num _ => true
  | .text _ => false
  | .tup ks => noTxts ks
def noTxts : List NestedKey → Bool
  | [] => true
  | k :: ks => noTxt k && noTxts ks
end
/-- the tuple at b is the key k -/
def NIs (h : Heap) (k : NestedKey) (b : Addr) : Prop := NestedIs h k (.ref b) ∧ k.depth ≤ 8 ∧ noTxt k = true
abbrev nh (w : World) (k : NestedKey) : Int := NestedKey.hash w k
def nrows (w : World) (L : List (Addr × NestedKey)) : List (Int × Value) := L.map fun q => (nh w q.2, Value.ref q.1)
theorem nrows_len {w : World} {L : List (Addr × NestedKey)} {xs : Array (Int × Value)} (e : xs.toList = nrows w L) : xs.size = L.length := by
  rw [← Array.length_toList, e, nrows, List.length_map]
structure NSet (w : World) (h : Heap) (a : Addr) (L : List (Addr × NestedKey)) (xs : Array (Int × Value)) (ep : Nat) (t : SetTable) : Prop where
  ob : ∃ o, h.get? a = some o ∧ o.ExactSet ∧ o.data = .set xs ep t
  rows : xs.toList = nrows w L
  tab : TabOk t (L.map fun q => nh w q.2)
  nd : (L.map (·.2)).Nodup
  key : ∀ q ∈ L, NIs h q.2 q.1
  plain : t.plain = true
  led : w.params.followText "set-order" = true ∨ t.led = true
  room : L.length * 5 < t.mask * 3
  few : L.length < 64
section
variable {P : Program} {w : World} {A : Around} {E : Value → Shared → Prop} {s : Shared}
/-! ### small questions -/
def OfNo (P : Program) (w : World) (n : Nat) (s : Shared) (v : Value) : Prop := ∀ (A : Around) (E : Value → Shared → Prop) (Q : Bool → Shared → Prop), Q false s → wpAny (model P w) A (ofAClassStatement n v) Q E s
theorem OfNo.tup {n : Nat} {b : Addr} {o : Obj} {us : Array Value} {m : Nat} (g1 : s.heap.get? b = some o) (g2 : o.cls = .type "tuple") (g3 : o.data = .seq us m) (all : ∀ v ∈ us.toList, OfNo P w n s v) : OfNo P w (n + 1) s (.ref b) := fun A E Q q => by
  unfold ofAClassStatement
  refine wpAny_bind (wpAny_typeOf (show s.TypeIs (.ref b) "tuple" from ⟨o, g1, g2⟩) ?_)
  dsimp only
  have tt : (("tuple" : String) == "tuple") = true := by decide
  simp only [tt, if_true, Bool.not_true, Bool.false_eq_true, if_false]
  first | refine wpAny_bind (wpAny_pure ?_) | skip
  first | simp only [Bool.not_true, Bool.false_eq_true, if_false] | skip
  show wpAny _ _ (seqItems? (.ref b) >>= _) _ _ s
  refine wpAny_bind (wpAny_seqItems g1 g3 ?_)
  dsimp only
  refine wpAny_bind ?_
  show wpAny _ _ (forIn us _ _) _ _ s
  rw [← Array.forIn_toList]
  refine wpAny_forIn_list _ (fun more r s1 => r.1 = none ∧ s1 = s ∧ ∀ v ∈ more, OfNo P w n s v) _ ?_ ?_ _ _ ⟨rfl, rfl, all⟩
  · rintro v more r s1 ⟨h1, rfl, h2⟩
    refine wpAny_bind (h2 v List.mem_cons_self _ _ _ ?_)
    simp only [Bool.false_eq_true, if_false]
    exact wpAny_pure ⟨rfl, rfl, fun u hu => h2 u (List.mem_cons_of_mem _ hu)⟩
  · rintro ⟨r1, r2⟩ s1 ⟨h1, rfl, _⟩
    simp only at h1
    subst h1
    exact wpAny_pure q
mutual
theorem ofno_key : ∀ (k : NestedKey) (v : Value) (n : Nat) (s : Shared), NestedIs s.heap k v → k.depth ≤ n → OfNo P w n s v
  | .none, _, n, s, x, _ => by cases x; intro A E Q q; cases n <;> exact wpAny_pure q
  | .num i, _, n, s, x, _ => by cases x <;> (intro A E Q q; cases n <;> exact wpAny_pure q)
  | .text y, _, n, s, x, _ => by cases x; intro A E Q q; cases n <;> exact wpAny_pure q
  | .tup ks, _, n, s, x, le => by
    cases x with
    | tup g1 g2 g3 g4 =>
      simp only [NestedKey.depth] at le
      cases n with
      | zero => omega
      | succ n => exact .tup g1 g2 g3 (ofno_keys ks _ n s g4 (by omega))
theorem ofno_keys : ∀ (ks : List NestedKey) (vs : List Value) (n : Nat) (s : Shared), NestedAll s.heap ks vs → NestedKey.depthAll ks ≤ n → ∀ v ∈ vs, OfNo P w n s v
  | [], _, n, s, x, _, v, hv => by cases x; cases hv
  | k :: ks, _, n, s, x, le, v, hv => by
    cases x with
    | cons x1 x2 =>
      simp only [NestedKey.depthAll] at le
      rcases List.mem_cons.mp hv with z | z
      · rw [z]; exact ofno_key k _ n s x1 (by omega)
      · exact ofno_keys ks _ n s x2 (by omega) v z
end
/-- its hash is told by the value alone -/
def ByV (P : Program) (w : World) (n : Nat) (s : Shared) (v : Value) : Prop := ∀ (A : Around) (E : Value → Shared → Prop) (Q : Bool → Shared → Prop), Q true s → wpAny (model P w) A (hashByValue n v) Q E s
theorem ByV.tup {n : Nat} {b : Addr} {o : Obj} {us : Array Value} {m : Nat} (g1 : s.heap.get? b = some o) (g2 : o.cls = .type "tuple") (g3 : o.data = .seq us m) (all : ∀ v ∈ us.toList, ByV P w n s v) : ByV P w (n + 1) s (.ref b) := fun A E Q q => by
  unfold hashByValue
  refine wpAny_bind (wpAny_specialOf (show s.TypeIs (.ref b) "tuple" from ⟨o, g1, g2⟩) F.slot_tuple_hash.lookup ?_)
  show wpAny _ _ (seqItems? (.ref b) >>= _) _ _ s
  refine wpAny_bind (wpAny_seqItems g1 g3 ?_)
  refine wpAny_bind ?_
  show wpAny _ _ (forIn us _ _) _ _ s
  rw [← Array.forIn_toList]
  refine wpAny_forIn_list _ (fun more r s1 => r.1 = none ∧ s1 = s ∧ ∀ v ∈ more, ByV P w n s v) _ ?_ ?_ _ _ ⟨rfl, rfl, all⟩
  · rintro v more r s1 ⟨h1, rfl, h2⟩
    refine wpAny_bind (h2 v List.mem_cons_self _ _ _ ?_)
    simp only [Bool.not_true, Bool.false_eq_true, if_false]
    exact wpAny_pure ⟨rfl, rfl, fun u hu => h2 u (List.mem_cons_of_mem _ hu)⟩
  · rintro ⟨r1, r2⟩ s1 ⟨h1, rfl, _⟩
    simp only at h1
    subst h1
    exact wpAny_pure q
mutual
theorem byv_key : ∀ (k : NestedKey) (v : Value) (n : Nat) (s : Shared), NestedIs s.heap k v → noTxt k = true → k.depth ≤ n → ByV P w n s v
  | .none, _, n, s, x, _, _ => by cases x; intro A E Q q; cases n <;> exact wpAny_pure q
  | .num i, _, n, s, x, _, _ => by cases x <;> (intro A E Q q; cases n <;> exact wpAny_pure q)
  | .text y, _, n, s, x, z, _ => by cases z
  | .tup ks, _, n, s, x, z, le => by
    cases x with
    | tup g1 g2 g3 g4 =>
      simp only [NestedKey.depth] at le
      cases n with
      | zero => omega
      | succ n => exact .tup g1 g2 g3 (byv_keys ks _ n s g4 z (by omega))
theorem byv_keys : ∀ (ks : List NestedKey) (vs : List Value) (n : Nat) (s : Shared), NestedAll s.heap ks vs → noTxts ks = true → NestedKey.depthAll ks ≤ n → ∀ v ∈ vs, ByV P w n s v
  | [], _, n, s, x, _, _, v, hv => by cases x; cases hv
  | k :: ks, _, n, s, x, z, le, v, hv => by
    obtain ⟨z1, z2⟩ := Bool.and_eq_true_iff.mp (show (noTxt k && noTxts ks) = true from z)
    cases x with
    | cons x1 x2 =>
      simp only [NestedKey.depthAll] at le
      rcases List.mem_cons.mp hv with y | y
      · rw [y]; exact byv_key k _ n s x1 z1 (by omega)
      · exact byv_keys ks _ n s x2 z2 (by omega) v y
end
/-- a search among such keys shows nothing -/
theorem seen_key {k : NestedKey} {b : Addr} {Q : Bool → Shared → Prop} (kb : NIs s.heap k b) {ys : List Value} (hy : ∀ y ∈ ys, ∃ k2 c, y = Value.ref c ∧ NIs s.heap k2 c) (q : Q false s) : wpAny (model P w) A (searchCouldBeSeen (.ref b) ys) Q E s := by
  unfold searchCouldBeSeen
  refine wpAny_bind ?_
  refine wpAny_forIn_list _ (fun more r s1 => r.1 = none ∧ s1 = s ∧ ∀ y ∈ more, ∃ k2 c, y = Value.ref c ∧ NIs s.heap k2 c) _ ?_ ?_ _ _ ⟨rfl, rfl, hy⟩
  · rintro v more r s1 ⟨h1, rfl, h2⟩
    obtain ⟨k2, c, rfl, kc⟩ := h2 v List.mem_cons_self
    have on := fun u (hu : u ∈ more) => h2 u (List.mem_cons_of_mem _ hu)
    dsimp only
    by_cases very : (b == c || (carriedByValue (.ref b) && carriedByValue (.ref c))) = true
    · exact wp_if_pos very (wpAny_pure ⟨rfl, rfl, on⟩)
    · refine wp_if_neg very ?_
      refine wpAny_bind (quiet_key k _ 8 _ kb.1 kb.2.1 _ _ _ ?_)
      simp only [Bool.not_true, Bool.false_eq_true, if_false]
      refine wpAny_bind (quiet_key k2 _ 8 _ kc.1 kc.2.1 _ _ _ ?_)
      simp only [Bool.not_true, Bool.false_eq_true, if_false]
      refine wpAny_bind (ofno_key k _ 8 _ kb.1 kb.2.1 _ _ _ ?_)
      simp only [Bool.false_eq_true, if_false]
      refine wpAny_bind (ofno_key k2 _ 8 _ kc.1 kc.2.1 _ _ _ ?_)
      simp only [Bool.false_eq_true, if_false]
      exact wpAny_pure ⟨rfl, rfl, on⟩
  · rintro ⟨r1, r2⟩ s1 ⟨h1, rfl, _⟩
    simp only at h1
    subst h1
    exact wpAny_pure q
theorem eq_key {k k2 : NestedKey} {b c : Addr} {Q : Bool → Shared → Prop} (hu : A.units + 8 < cLine) (kb : NIs s.heap k b) (kc : NIs s.heap k2 c) (q : Q (decide (k = k2)) s) : wpAny (model P w) A (eqBool (.ref b) (.ref c)) Q E s :=
  (nestedKind P w).eqBool hu ⟨kb.1, kb.2.1⟩ ⟨kc.1, kc.2.1⟩ q
end
end DLN

/-! such sets: the search; the steps follow those of the library's sets of tuples of ints -/
namespace DLN
open PySem PySem.Spec PyProof.Rows L2
section
variable {P : Program} {w : World} {A : Around} {E : Value → Shared → Prop} {s : Shared} {a : Addr} {L : List (Addr × NestedKey)} {xs : Array (Int × Value)} {ep : Nat} {t : SetTable}
theorem NSet.fits (Z : NSet w s.heap a L xs ep t) : t.fits xs.size = true := by
  have z1 := Z.tab.sz
  rw [List.length_map] at z1
  have z2 := nrows_len Z.rows
  have z3 := Z.room
  unfold SetTable.fits SetTable.fill
  rw [Z.tab.dm, Bool.and_eq_true, beq_iff_eq, decide_eq_true_eq]
  show t.place.size = xs.size ∧ t.place.size + 0 ≤ t.mask
  omega
theorem NSet.at (Z : NSet w s.heap a L xs ep t) {i : Nat} {q : Addr × NestedKey} (h : L[i]? = some q) : xs[i]? = some (nh w q.2, Value.ref q.1) := by
  rw [← Array.getElem?_toList, Z.rows, nrows, List.getElem?_map, h]
  rfl
theorem NSet.gw (Z : NSet w s.heap a L xs ep t) : ¬ t.gaveWay = true := by
  unfold SetTable.gaveWay
  rw [mask_odd Z.tab.mok]
  decide
/-- the c-th look on a hash's way -/
abbrev look (t : SetTable) (v : Int) (c : Nat) : SetTable.Probe := nth t.mask (runAt t.mask (SetTable.bits v % (t.mask + 1)) (SetTable.bits v)) c
theorem look_add (t : SetTable) (v : Int) (c q : Nat) : nth t.mask (look t v c) q = look t v (c + q) := (nth_add t.mask c _ q).symm
theorem look_dummy (t : SetTable) (v : Int) (c : Nat) : (look t v c).dummy = none := by
  have key : ∀ (n : Nat) (p : SetTable.Probe), p.dummy = none → (nth t.mask p n).dummy = none := by
    intro n
    induction n with
    | zero => exact fun p h => h
    | succ n ih =>
      intro p h
      refine ih (adv t.mask p) ?_
      unfold adv
      split <;> exact h
  exact key c _ rfl
theorem nsearch_from {ad : Bool} (Z : NSet w s.heap a L xs ep t) {x : Addr} {k : NestedKey} (kx : NIs s.heap k x) (hu : A.units + 8 < cLine) {N : Nat} (nf : N < 10 * SetTable.turns t.mask)
    (nK : way t.mask (nh w k) N ∉ t.place.toList) (nB : ∀ c, c < N → way t.mask (nh w k) c ∈ t.place.toList) {Q : SetFound → Shared → Prop}
    (yes : ∀ oi : Option Nat, k ∈ L.map (·.2) → (ad = false → oi.isSome = true) → Q (.there oi) s) (no : k ∉ L.map (·.2) → Q (.free (way t.mask (nh w k) N) false) s) :
    ∀ (f c : Nat) (st : Option SetTable.Probe), st.getD (t.probeStart (nh w k)) = look t (nh w k) c → c ≤ N → N - c < f →
      (∀ (i : Nat) q, L[i]? = some q → q.2 = k → ∃ c2, c ≤ c2 ∧ c2 < N ∧ t.place.toList[i]? = some (way t.mask (nh w k) c2)) →
      wpAny (model P w) A (setSearchFrom a (.ref x) (nh w k) ad f st) Q E s
  | 0, c, st, _, _, lt, _ => absurd lt (Nat.not_lt_zero _)
  | f + 1, c, st, e0, le, lt, all => by
    obtain ⟨o, h1, h2, h3⟩ := Z.ob
    rw [setSearchFrom_succ]
    refine wpAny_bind (wpAny_setState_of h1 h3 Z.fits ?_)
    dsimp only
    refine wp_if_neg Z.gw ?_
    first | refine wpAny_bind (wpAny_pure ?_) | skip
    have jw : ∀ q, (nth t.mask (look t (nh w k) c) q).j = way t.mask (nh w k) (c + q) := fun q => congrArg SetTable.Probe.j (look_add t _ c q)
    have cN : c + (N - c) = N := by omega
    have spec := go_spec t Z.tab.ris Z.tab.dm (fun i => (xs[i]?.map (·.1)).getD 0) (nh w k) (10 * SetTable.turns t.mask) (N - c) _ (look_dummy t (nh w k) c) (by omega)
      (fun q lq => by rw [jw]; exact nB (c + q) (by omega)) (by rw [jw, cN]; exact nK)
    have hash : ∀ (i : Nat) q, L[i]? = some q → (fun i => (xs[i]?.map (·.1)).getD 0) i = nh w q.2 := fun i q e => by
      show (xs[i]?.map (·.1)).getD 0 = _
      rw [Z.at e]; rfl
    rcases spec with ⟨q, i, lq, ei, eh, nn, ep1⟩ | ⟨nn, ep1⟩
    · have ep2 : t.probe (fun i => (xs[i]?.map (·.1)).getD 0) (nh w k) (st.getD (t.probeStart (nh w k))) = some (.candidate (way t.mask (nh w k) (c + q)) i (look t (nh w k) (c + (q + 1)))) := by
        rw [e0, ← jw, ← look_add]
        exact ep1
      rw [ep2]
      dsimp only
      rw [jw] at ei
      have li : i < L.length := by
        have z1 : i < t.place.toList.length := (List.getElem?_eq_some_iff.mp ei).1
        have z2 := Z.tab.sz
        rw [List.length_map] at z2
        rw [Array.length_toList] at z1
        omega
      obtain ⟨r, er⟩ : ∃ r, L[i]? = some r := ⟨_, List.getElem?_eq_getElem li⟩
      have mr : r ∈ L := List.mem_of_getElem? er
      have go : wpAny (model P w) A (searchRest a (.ref x) (nh w k) ad f xs t (way t.mask (nh w k) (c + q)) i (look t (nh w k) (c + (q + 1)))) Q E s := by
        unfold searchRest
        rw [Z.at er]
        dsimp only
        refine wpAny_bind (wpAny_holding (eq_key hu (Z.key r mr) kx ?_))
        refine wpAny_bind (wpAny_setState_of h1 h3 Z.fits ?_)
        dsimp only
        have sl : t.slot (way t.mask (nh w k) (c + q)) = .live i := slot_live Z.tab.ris ei
        by_cases same : r.2 = k
        · have mem : k ∈ L.map (·.2) := List.mem_map.mpr ⟨r, mr, same⟩
          cases ad with
          | true =>
            refine wp_if_pos (by simp [same]) ?_
            exact wpAny_pure (yes none mem fun z => by cases z)
          | false =>
            refine wp_if_neg (by simp) ?_
            first | refine wpAny_bind (wpAny_pure ?_) | skip
            rw [sameMem]
            dsimp only
            simp only [if_true, sl, Z.at er]
            refine wpAny_bind (wpAny_isSame_ref_self (wpAny_bind (wpAny_pure ?_)))
            simp only [if_true]
            refine wp_if_pos (by simp [same]) ?_
            exact wpAny_pure (yes (some i) mem fun _ => rfl)
        · refine wp_if_neg (by simp [same]) ?_
          first | refine wpAny_bind (wpAny_pure ?_) | skip
          rw [sameMem]
          dsimp only
          simp only [if_true, sl, Z.at er]
          refine wpAny_bind (wpAny_isSame_ref_self (wpAny_bind (wpAny_pure ?_)))
          simp only [if_true]
          refine wp_if_neg (by simp [same]) ?_
          refine nsearch_from Z kx hu nf nK nB yes no f (c + (q + 1)) _ rfl (by omega) (by omega) fun i2 r2 e2 k2 => ?_
          obtain ⟨c2, b1, b2, b3⟩ := all i2 r2 e2 k2
          refine ⟨c2, ?_, b2, b3⟩
          rcases Nat.lt_or_ge c2 (c + q) with z | z
          · exact absurd ((hash i2 r2 e2).trans (congrArg (nh w) k2)) (nn (c2 - c) i2 (by omega) (by rw [jw, show c + (c2 - c) = c2 by omega]; exact b3))
          · rcases Nat.lt_or_ge (c + q) c2 with y | y
            · omega
            · have ec : c2 = c + q := Nat.le_antisymm y z
              rw [ec] at b3
              have s2 := slot_live Z.tab.ris b3
              rw [sl] at s2
              injection s2 with s2
              rw [← s2, er] at e2
              exact absurd ((congrArg Prod.snd (Option.some.inj e2)).trans k2) same
      by_cases hl : t.led = true
      · refine wp_if_neg (by simp [hl]) ?_
        first | refine wpAny_bind (wpAny_pure ?_) | skip
        exact go
      · refine wp_if_pos (by simp [hl]) ?_
        refine wpAny_bind (seen_key kx (fun y my => ?_) ?_)
        · obtain ⟨e, m1, m2⟩ := List.mem_map.mp my
          have m3 : e ∈ xs ∧ e.1 = nh w k := by simpa using m1
          have m4 : e ∈ xs.toList := by simpa using m3.1
          rw [Z.rows] at m4
          obtain ⟨r2, m5, m6⟩ := List.mem_map.mp m4
          exact ⟨r2.2, r2.1, by rw [← m2, ← m6], Z.key r2 m5⟩
        · refine wp_if_neg (by decide) ?_
          first | refine wpAny_bind (wpAny_pure ?_) | skip
          exact go
    · have ep2 : t.probe (fun i => (xs[i]?.map (·.1)).getD 0) (nh w k) (st.getD (t.probeStart (nh w k))) = some (.empty (way t.mask (nh w k) N) none) := by
        have e2 : way t.mask (nh w k) N = (nth t.mask (look t (nh w k) c) (N - c)).j := by rw [jw, cN]
        rw [e0, e2]
        exact ep1
      rw [ep2]
      dsimp only
      refine wpAny_pure (no fun m => ?_)
      obtain ⟨r, m1, m2⟩ := List.mem_map.mp m
      obtain ⟨i2, l2, e2⟩ := List.getElem_of_mem m1
      have e3 : L[i2]? = some r := by rw [List.getElem?_eq_getElem l2, e2]
      obtain ⟨c2, b1, b2, b3⟩ := all i2 r e3 m2
      exact nn (c2 - c) i2 (by omega) (by rw [jw, show c + (c2 - c) = c2 by omega]; exact b3) ((hash i2 r e3).trans (congrArg (nh w) m2))
theorem nsearch {ad : Bool} (Z : NSet w s.heap a L xs ep t) {x : Addr} {k : NestedKey} (kx : NIs s.heap k x) (hu : A.units + 8 < cLine) {Q : SetFound → Shared → Prop}
    (yes : ∀ oi : Option Nat, k ∈ L.map (·.2) → (ad = false → oi.isSome = true) → Q (.there oi) s)
    (no : ∀ N, k ∉ L.map (·.2) → way t.mask (nh w k) N ∉ t.place.toList → (∀ c, c < N → way t.mask (nh w k) c ∈ t.place.toList) → Q (.free (way t.mask (nh w k) N) false) s) :
    wpAny (model P w) A (setSearch a (.ref x) (nh w k) ad) Q E s := by
  have room := Z.room
  obtain ⟨N, nf, nK, nB⟩ := Z.tab.first (by rw [List.length_map]; omega) (nh w k)
  have big : N < 100000 := by
    have : 10 * SetTable.turns t.mask ≤ 1420 := by
      unfold SetTable.turns
      rcases Z.tab.mok with e | e | e <;> omega
    omega
  unfold setSearch
  refine nsearch_from Z kx hu nf nK nB yes (fun m => no N m nK nB) 100000 0 none rfl (Nat.zero_le _) (by omega) fun i q e1 e2 => ?_
  have e3 : (L.map fun q => nh w q.2)[i]? = some (nh w k) := by rw [List.getElem?_map, e1, ← e2]; rfl
  have li : i < t.place.toList.length := by
    have z1 : i < L.length := (List.getElem?_eq_some_iff.mp e1).1
    have z2 := Z.tab.sz
    rw [List.length_map] at z2
    rw [Array.length_toList]
    omega
  have ej := List.getElem?_eq_getElem li
  obtain ⟨c, lc, e⟩ := Z.tab.before nK e3 ej
  exact ⟨c, Nat.zero_le _, lc, by rw [ej, e]⟩
/-- x in s -/
theorem nhas (Z : NSet w s.heap a L xs ep t) {x : Addr} {k : NestedKey} (kx : NIs s.heap k x) (hu : A.units + 8 < cLine) {Q : Bool → Shared → Prop} (q : Q (decide (k ∈ L.map (·.2))) { s with toks := s.toks + k.draws }) :
    wpAny (model P w) A (setContains a (.ref x)) Q E s := by
  unfold setContains
  refine wpAny_holding (wpAny_bind ((nestedKind P w).pyHash hu ⟨kx.1, kx.2.1⟩ ?_))
  obtain ⟨o, h1, h2, h3⟩ := Z.ob
  show wpAny _ _ (setFind a (.ref x) (nh w k) >>= _) _ _ _
  unfold setFind
  rw [show (100000 : Nat) = 99999 + 1 from rfl]
  unfold setFindIn
  refine wpAny_bind (wpAny_bind (wpAny_setState_of h1 h3 Z.fits ?_))
  dsimp only
  refine wp_if_neg (by simp [byScan, Value.scannable]) ?_
  first | refine wpAny_bind (wpAny_pure ?_) | skip
  refine wpAny_bind (nsearch (s := { s with toks := s.toks + k.draws }) Z kx hu (fun oi m z => ?_) fun N m _ _ => ?_)
  · dsimp only
    refine wpAny_pure (wpAny_pure ?_)
    rw [z rfl]
    rw [decide_eq_true m] at q
    exact q
  · dsimp only
    refine wpAny_pure (wpAny_pure ?_)
    rw [decide_eq_false m] at q
    exact q
end
end DLN

/-! such sets: adding; the steps follow those of the library's sets of tuples of ints -/
namespace DLN
open PySem PySem.Spec PyProof.Rows L2
section
variable {P : Program} {w : World} {A : Around} {E : Value → Shared → Prop} {s : Shared}
theorem NIs.same {h h2 : Heap} {k : NestedKey} {a b : Addr} {o : Obj} {xs : Array (Int × Value)} {ep : Nat} {t : SetTable} (kb : NIs h k b) (e1 : h.get? a = some o) (e2 : o.data = .set xs ep t) (e3 : Heap.SameBut a h h2) : NIs h2 k b := by
  refine ⟨NestedIs.at (fun c u vs n g1 g2 => ?_) k _ kb.1, kb.2⟩
  refine (e3.2 c fun z => ?_).trans g1
  subst z
  rw [e1] at g1
  cases g1
  rw [e2] at g2
  cases g2
theorem NIs.keep {h h2 : Heap} {k : NestedKey} {b : Addr} (kb : NIs h k b) (e : ∀ c o, h.get? c = some o → h2.get? c = some o) : NIs h2 k b := ⟨NestedIs.at (fun c o _ _ g _ => e c o g) k _ kb.1, kb.2⟩
theorem nrows_put (L : List (Addr × NestedKey)) (p : Nat) (x : Addr) (k : NestedKey) : nrows w (L.take p ++ (x, k) :: L.drop p) = (nrows w L).take p ++ (nh w k, Value.ref x) :: (nrows w L).drop p := by
  simp only [nrows, List.map_append, List.map_cons, List.map_take, List.map_drop]
theorem nrows_order (L : List (Addr × NestedKey)) (xs : Array (Int × Value)) (order : Array Nat) (e : xs.toList = nrows w L) (pm : order.toList.Perm (List.range L.length)) :
    ∃ L2, (order.filterMap (xs[·]?)).toList = nrows w L2 ∧ L2.Perm L ∧ (L2.map fun q => nh w q.2) = order.toList.map fun i => (xs.map (·.1)).getD i 0 := by
  have size := nrows_len e
  have entry : ∀ i (lt : i < L.length), xs[i]? = some (nh w (L[i]).2, Value.ref (L[i]).1) := fun i lt => by
    rw [← Array.getElem?_toList, e, nrows, List.getElem?_map, List.getElem?_eq_getElem lt]
    rfl
  have step : ∀ l : List Nat, (∀ i ∈ l, i < L.length) → ∃ L2 : List (Addr × NestedKey), l.filterMap (fun i => xs[i]?) = nrows w L2 ∧ L2 = l.filterMap (fun i => L[i]?) ∧ (L2.map fun q => nh w q.2) = l.map fun i => (xs.map (·.1)).getD i 0 := by
    intro l
    induction l with
    | nil => exact fun _ => ⟨[], rfl, rfl, rfl⟩
    | cons i l ih =>
      intro all
      have lt := all i List.mem_cons_self
      obtain ⟨L2, g1, g2, g3⟩ := ih fun j hj => all j (List.mem_cons_of_mem _ hj)
      refine ⟨L[i] :: L2, ?_, ?_, ?_⟩
      · rw [List.filterMap_cons_some (entry i lt), g1]; rfl
      · rw [List.filterMap_cons_some (List.getElem?_eq_getElem lt), g2]
      · rw [List.map_cons, List.map_cons, g3]
        have g4 : (xs.map (·.1))[i]? = some (nh w (L[i]).2) := by rw [Array.getElem?_map, entry i lt]; rfl
        have g5 : (xs.map (·.1)).getD i 0 = nh w (L[i]).2 := by simp [Array.getD_eq_getD_getElem?, g4]
        rw [g5]
  obtain ⟨L2, g1, g2, g3⟩ := step order.toList fun i hi => List.mem_range.mp (pm.mem_iff.mp hi)
  refine ⟨L2, by first | (rw [Array.toList_filterMap]; exact g1) | simpa using g1, ?_, g3⟩
  have p1 : L2.Perm ((List.range L.length).filterMap fun i => L[i]?) := by rw [g2]; exact pm.filterMap _
  have cut : ∀ n, n ≤ L.length → (List.range n).filterMap (fun i => L[i]?) = L.take n := by
    intro n
    induction n with
    | zero => exact fun _ => rfl
    | succ n ih =>
      intro le
      have lt : n < L.length := le
      rw [List.range_succ, List.filterMap_append, ih (Nat.le_of_lt lt), List.take_succ, List.getElem?_eq_getElem lt, List.filterMap_cons_some (List.getElem?_eq_getElem lt)]
      rfl
  rw [cut L.length (Nat.le_refl _), List.take_length] at p1
  exact p1
variable {a : Addr} {L : List (Addr × NestedKey)} {xs : Array (Int × Value)} {ep : Nat} {t : SetTable}
theorem nrelay {o : Obj} (h1 : s.heap.get? a = some o) (h2 : o.ExactSet) (h3 : o.data = .set xs ep t) (h4 : xs.toList = nrows w L) (h5 : t.place.size = xs.size) (h6 : t.dummies = #[]) (h7 : xs.size ≤ t.mask)
    (nd : (L.map (·.2)).Nodup) (key : ∀ q ∈ L, NIs s.heap q.2 q.1) (pl : t.plain = true) (ld : w.params.followText "set-order" = true ∨ t.led = true) (few : L.length < 64) {want N : Nat}
    (e1 : SetTable.sizeAbove want - 1 = N) (e2 : MaskOk N) (e3 : SetTable.sizeAbove want ≤ 128) (e4 : L.length * 5 < N * 3) {Q : Unit → Shared → Prop}
    (q : ∀ hp L2 xs2 ep2 t2, Heap.SameBut a s.heap hp → NSet w hp a L2 xs2 ep2 t2 → L2.Perm L → Q () { s with heap := hp }) : wpAny (model P w) A (setRelay a want) Q E s := by
  have size := nrows_len h4
  have fits : t.fits xs.size = true := by
    unfold SetTable.fits SetTable.fill
    rw [h6, Bool.and_eq_true, beq_iff_eq, decide_eq_true_eq]
    show t.place.size = xs.size ∧ t.place.size + 0 ≤ t.mask
    omega
  obtain ⟨t2, order, er, pm, T, em, el, ep2, ed⟩ := relaid_ok t (hs := xs.map (·.1)) (wanted := want) e1 e2 (by rw [Array.size_map, size]; omega)
  rw [Array.size_map, size] at pm
  obtain ⟨L2, r1, r2, r3⟩ := nrows_order L xs order h4 pm
  rw [← r3] at T
  have size2 : (order.filterMap (xs[·]?)).size = xs.size := by rw [nrows_len r1, r2.length_eq, size]
  rw [setRelay_eq]
  refine wpAny_bind (wpAny_setState_of h1 h3 fits ?_)
  dsimp only
  refine wp_if_neg (by rw [sizeLine_eq]; omega) ?_
  first | refine wpAny_bind (wpAny_pure ?_) | skip
  rw [er]
  dsimp only
  refine wpAny_bind ?_
  refine wp_if_neg (by rw [size2]; simp) ?_
  first | refine wpAny_bind (wpAny_pure ?_) | skip
  refine wpAny_pure ?_
  dsimp only
  refine wpAny_storeSet_of h1 h3 ?_ (by rw [size2, size, sizeLine_eq]; omega)
  have sb : Heap.SameBut a s.heap (s.heap.update a (Obj.putSet (order.filterMap (xs[·]?)) t2)) := Heap.SameBut.update ..
  refine q _ L2 (order.filterMap (xs[·]?)) (ep + 1) t2 sb { ob := ⟨_, store_at h1 h3, ⟨h2.1, h2.2.1, h2.2.2⟩, rfl⟩, rows := r1, tab := T, nd := (r2.map (·.2)).nodup_iff.mpr nd, key := fun y my => (key y (r2.mem_iff.mp my)).same h1 h3 sb, plain := by rw [ep2]; exact pl, led := by rw [el]; exact ld, room := by rw [r2.length_eq, em]; exact e4, few := by rw [r2.length_eq]; exact few } r2
/-- adding -/
theorem nadd_hashed (Z : NSet w s.heap a L xs ep t) {x : Addr} {k : NestedKey} (kx : NIs s.heap k x) (hu : A.units + 8 < cLine) (few : L.length + 1 < 64) {Q : Bool → Shared → Prop}
    (q : ∀ b hp L2 xs2 ep2 t2, Heap.SameBut a s.heap hp → NSet w hp a L2 xs2 ep2 t2 → (k ∈ L.map (·.2) → L2 = L) → (k ∉ L.map (·.2) → L2.Perm ((x, k) :: L)) → Q b { s with heap := hp }) :
    wpAny (model P w) A (setAddHashed a (.ref x) (nh w k)) Q E s := by
  obtain ⟨o, h1, h2, h3⟩ := Z.ob
  have size := nrows_len Z.rows
  have room := Z.room
  unfold setAddHashed
  refine wpAny_holding ?_
  rw [show (100000 : Nat) = 99999 + 1 from rfl, setAddHashedIn_succ]
  refine wpAny_bind (wpAny_setState_of h1 h3 Z.fits ?_)
  dsimp only
  refine wp_if_neg (by simp [byScan, Value.scannable]) ?_
  first | refine wpAny_bind (wpAny_pure ?_) | skip
  refine wpAny_bind (nsearch Z kx hu (fun oi m _ => ?_) fun N m nK nB => ?_)
  · dsimp only
    exact wpAny_pure (q false s.heap L xs ep t (Heap.SameBut.refl a s.heap) Z (fun _ => rfl) fun z => absurd m z)
  · dsimp only
    refine wpAny_bind (wpAny_setState_of h1 h3 Z.fits ?_)
    dsimp only
    obtain ⟨q1, q2, q3, q4, q5, q6, q7, q8, q9⟩ := Z.tab.put nK nB
    have pl1 : (t.put (way t.mask (nh w k) N)).1.plain = true := by rw [q6]; exact Z.plain
    generalize t.put (way t.mask (nh w k) N) = pt at q1 q3 q4 q5 q6 q7 q8 q9 pl1 ⊢
    obtain ⟨t1, p⟩ := pt
    dsimp only at q1 q3 q4 q5 q6 q7 q8 q9 pl1 ⊢
    subst q1
    first
      | (refine wpAny_bind ?_; refine wp_if_pos pl1 ?_; refine byv_key k _ 8 _ kx.1 kx.2.2 kx.2.1 _ _ _ ?_)
      | refine wp_if_pos pl1 (wpAny_bind (byv_key k _ 8 _ kx.1 kx.2.2 kx.2.1 _ _ _ ?_))
    simp only [if_true]
    have ins : (SetTable.insertAt xs (SetTable.below t.place (way t.mask (nh w k) N)) (nh w k, Value.ref x)).toList = nrows w (L.take (SetTable.below t.place (way t.mask (nh w k) N)) ++ (x, k) :: L.drop (SetTable.below t.place (way t.mask (nh w k) N))) := by
      rw [SetTable.toList_insertAt, nrows_put, Z.rows]
    generalize SetTable.below t.place (way t.mask (nh w k) N) = p at q2 q3 ins ⊢
    have pm := put_perm L p (x, k)
    have len : (L.take p ++ (x, k) :: L.drop p).length = L.length + 1 := pm.length_eq
    have hs : (L.take p ++ (x, k) :: L.drop p).map (fun r => nh w r.2) = (L.map fun r => nh w r.2).take p ++ nh w k :: (L.map fun r => nh w r.2).drop p := by
      rw [List.map_append, List.map_cons, List.map_take, List.map_drop]
    rw [← hs] at q3
    have nd1 : ((L.take p ++ (x, k) :: L.drop p).map (·.2)).Nodup := (pm.map (·.2)).nodup_iff.mpr (List.nodup_cons.mpr ⟨m, Z.nd⟩)
    generalize SetTable.insertAt xs p (nh w k, Value.ref x) = x1 at ins ⊢
    have sz1 : x1.size = L.length + 1 := by rw [nrows_len ins, len]
    generalize L.take p ++ (x, k) :: L.drop p = L1 at pm len q3 nd1 ins
    refine wpAny_bind (wpAny_storeSet_of h1 h3 ?_ (by rw [sz1, sizeLine_eq]; omega))
    have sb : Heap.SameBut a s.heap (s.heap.update a (Obj.putSet x1 t1)) := Heap.SameBut.update ..
    have ho1 := store_at (es' := x1) (t' := t1) h1 h3
    generalize s.heap.update a (Obj.putSet x1 t1) = hp1 at sb ho1 ⊢
    have key1 : ∀ y ∈ L1, NIs hp1 y.2 y.1 := fun y my => by
      rcases List.mem_cons.mp (pm.mem_iff.mp my) with e | z
      · rw [e]; exact kx.same h1 h3 sb
      · exact (Z.key y z).same h1 h3 sb
    have ld1 : w.params.followText "set-order" = true ∨ t1.led = true := by rw [q5]; exact Z.led
    by_cases full : t1.tooFull = true
    · first
        | (refine wpAny_bind ?_; refine wp_if_pos (by simp [full]) ?_)
        | (refine wp_if_pos (by simp [full]) ?_; refine wpAny_bind ?_)
      have much : (L.length + 1) * 5 ≥ t1.mask * 3 := by
        have z := full
        unfold SetTable.tooFull at z
        rw [decide_eq_true_eq, q9, List.length_map] at z
        exact z
      rw [size]
      have place1 : t1.place.size = x1.size := by
        have z := q3.sz
        rw [List.length_map, len] at z
        rw [z, sz1]
      have two : (t.mask = 7 ∧ L.length = 4) ∨ (t.mask = 31 ∧ L.length = 18) := by
        rcases Z.tab.mok with e | e | e
        · left; rw [q4, e] at much; rw [e] at room; exact ⟨e, by omega⟩
        · right; rw [q4, e] at much; rw [e] at room; exact ⟨e, by omega⟩
        · exfalso; rw [q4, e] at much; omega
      have go : ∀ N2, SetTable.sizeAbove (SetTable.grown (L.length + 1)) - 1 = N2 → MaskOk N2 → SetTable.sizeAbove (SetTable.grown (L.length + 1)) ≤ 128 → (L.length + 1) * 5 < N2 * 3 →
          wpAny (model P w) A (setRelay a (SetTable.grown (L.length + 1))) (fun _ s2 => wpAny (model P w) A (pure true) Q E s2) E { s with heap := hp1 } := fun N2 b1 b2 b3 b4 => by
        refine nrelay (s := { s with heap := hp1 }) ho1 ⟨h2.1, h2.2.1, h2.2.2⟩ rfl ins place1 q3.dm (by rw [sz1, q4]; rcases two with ⟨e, e2⟩ | ⟨e, e2⟩ <;> omega) nd1 key1 pl1 ld1 (by rw [len]; exact few) b1 b2 b3 (by rw [len]; exact b4) ?_
        intro hp2 L2 xs2 ep2 t2 sb2 Z2 pm2
        exact wpAny_pure (q true hp2 L2 xs2 ep2 t2 (sb.trans sb2) Z2 (fun z => absurd z m) fun _ => pm2.trans pm)
      rcases two with ⟨_, e2⟩ | ⟨_, e2⟩
      · exact go 31 (by rw [e2, size_20]) (.inr (.inl rfl)) (by rw [e2, size_20]; decide) (by omega)
      · exact go 127 (by rw [e2, size_76]) (.inr (.inr rfl)) (by rw [e2, size_76]; decide) (by omega)
    · first
        | refine wp_if_neg (by simp [full]) ?_
        | (refine wpAny_bind ?_; refine wp_if_neg (by simp [full]) ?_; refine wpAny_pure ?_)
      have z := full
      unfold SetTable.tooFull at z
      rw [decide_eq_true_eq, q9, List.length_map] at z
      exact wpAny_pure (q true hp1 L1 x1 (ep + 1) t1 sb { ob := ⟨_, ho1, ⟨h2.1, h2.2.1, h2.2.2⟩, rfl⟩, rows := ins, tab := q3, nd := nd1, key := key1, plain := pl1, led := ld1, room := by rw [len]; omega, few := by rw [len]; exact few } (fun y => absurd y m) fun _ => pm)
/-- s.add(x) -/
theorem nadd (Z : NSet w s.heap a L xs ep t) {x : Addr} {k : NestedKey} (kx : NIs s.heap k x) (hu : A.units + 9 < cLine) (few : L.length + 1 < 64) {Q : Value → Shared → Prop}
    (q : ∀ hp L2 xs2 ep2 t2 tk, Heap.SameBut a s.heap hp → NSet w hp a L2 xs2 ep2 t2 → (k ∈ L.map (·.2) → L2 = L) → (k ∉ L.map (·.2) → L2.Perm ((x, k) :: L)) → Q .none { s with heap := hp, toks := tk }) :
    wpAny (model P w) A (call (.builtin "set.add") [.ref a, .ref x]) Q E s := by
  obtain ⟨o, h1, h2, h3⟩ := Z.ob
  have ty : s.TypeIs (.ref a) "set" := ⟨o, h1, h2.1⟩
  refine wpAny_call_entry F.slot_set_add ty F.entry_set_add ?_ (F.args_set_add_2 _ _)
  unfold Builtin.«set.add» Builtin.Frozenset.oneOther
  simp only [List.isEmpty_nil, bind_assoc]
  unfold Builtin.Frozenset.addrOf setAdd
  refine wpAny_bind (wpAny_pure ?_)
  try dsimp only
  refine wpAny_bind (wpAny_pure ?_)
  try dsimp only
  refine wpAny_bind (wpAny_holding (wpAny_bind ((nestedKind P w).pyHash (by show A.in1.units + 8 < cLine; show A.units + 1 + 8 < cLine; omega) ⟨kx.1, kx.2.1⟩ ?_)))
  refine nadd_hashed (s := { s with toks := s.toks + k.draws }) Z kx (by show A.units + 1 + 8 < cLine; omega) few fun b hp L2 xs2 ep2 t2 sb Z2 y n => ?_
  show wpAny _ _ (ret Value.none) _ _ _
  exact wpAny_pure ⟨_, rfl, q hp L2 xs2 ep2 t2 _ sb Z2 y n⟩
theorem nset_fresh {h : Heap} {a : Addr} (e : h.get? a = some { cls := .type "set", dict := none, data := .set #[] 0 (.fresh 0 0 (!w.params.followText "set-order")) }) : NSet w h a [] #[] 0 (.fresh 0 0 (!w.params.followText "set-order")) where
  ob := ⟨_, e, ⟨rfl, rfl, rfl⟩, rfl⟩
  rows := rfl
  tab := ⟨List.Pairwise.nil, rfl, rfl, .inl rfl, fun x hx => (by cases hx), fun i h j hi => (by simp at hi)⟩
  nd := List.nodup_nil
  key := fun q m => (by cases m)
  plain := rfl
  led := by
    show _ ∨ (!w.params.followText "set-order") = true
    cases w.params.followText "set-order"
    · exact .inr rfl
    · exact .inl rfl
  room := by show 0 * 5 < 7 * 3; decide
  few := by show 0 < 64; decide
end
end DLN

/-! such sets as tracked things -/
namespace DLN
open PySem PySem.Spec PyProof.Rows L2
section
variable {P : Program} {w : World} {A : Around} {E : Value → Shared → Prop} {s : Shared} {a : Addr} {L : List (Addr × NestedKey)} {xs : Array (Int × Value)} {ep : Nat} {t : SetTable}
theorem ncontains (Z : NSet w s.heap a L xs ep t) {x : Addr} {k : NestedKey} (kx : NIs s.heap k x) (hu : A.units + 12 < cLine) {Q : Bool → Shared → Prop} (q : Q (decide (k ∈ L.map (·.2))) { s with toks := s.toks + k.draws }) :
    wpAny (model P w) A (contains (.ref a) (.ref x)) Q E s := by
  obtain ⟨o, h1, h2, h3⟩ := Z.ob
  have ty : s.TypeIs (.ref a) "set" := ⟨o, h1, h2.1⟩
  unfold contains
  try with_reducible refine wpAny_holding ?_
  refine wpAny_bind (wpAny_specialOf ty F.slot_set_contains.lookup ?_)
  show wpAny _ _ (if (some (Value.builtin "set.__contains__") == some Value.none) = true then _ else _) _ E s
  rw [if_neg (by rw [beq_builtin_none]; exact Bool.false_ne_true)]
  have inner : wpAny (model P w) A.in1 (Builtin.«frozenset.__contains__» ⟨[.ref a, .ref x], []⟩) (fun f s2 => ∃ v, f = .done (.ret v) ∧ (∃ c, v = Value.bool c ∧ Q c s2)) E s := by
    unfold Builtin.«frozenset.__contains__» Builtin.Frozenset.oneOther
    simp only [List.isEmpty_nil, bind_assoc]
    unfold Builtin.Frozenset.addrOf Builtin.Frozenset.withSetAsKey
    refine wpAny_bind (wpAny_pure ?_)
    try dsimp only
    refine wpAny_bind (wpAny_pure ?_)
    try dsimp only
    refine wpAny_bind (wpAny_tryCatch (nhas Z kx (by show A.units + 1 + 8 < cLine; omega) ?_))
    show wpAny _ _ (ret (Value.bool _)) _ _ _
    exact wpAny_pure ⟨_, rfl, _, rfl, q⟩
  refine wpAny_bind (wpAny_callSpecialUnlessNone?_slot (name := Str.ofString "__contains__") ty F.slot_set_contains
    (wpAny_call_entry F.slot_set_contains ty entry_set_contains (wpAny_mono inner (fun f s2 z => ?_) fun _ _ z => z) (F.args_set_contains_2 _ _)))
  obtain ⟨v, rfl, c, rfl, z⟩ := z
  exact ⟨_, rfl, wpAny_truthy_bool z⟩
end
/-- what is told of it but for its members -/
def NSet0 (w : World) (h : Heap) (a : Addr) (L : List (Addr × NestedKey)) : Prop := ∃ (o : Obj) (xs : Array (Int × Value)) (ep : Nat) (t : SetTable), h.get? a = some o ∧ o.ExactSet ∧ o.data = .set xs ep t ∧ xs.toList = nrows w L ∧ TabOk t (L.map fun q => nh w q.2) ∧ (L.map (·.2)).Nodup ∧ t.plain = true ∧
  (w.params.followText "set-order" = true ∨ t.led = true) ∧ L.length * 5 < t.mask * 3 ∧ L.length < 64
theorem NSet.bare {w : World} {h : Heap} {a : Addr} {L : List (Addr × NestedKey)} {xs : Array (Int × Value)} {ep : Nat} {t : SetTable} (Z : NSet w h a L xs ep t) : NSet0 w h a L :=
  let ⟨o, h1, h2, h3⟩ := Z.ob
  ⟨o, xs, ep, t, h1, h2, h3, Z.rows, Z.tab, Z.nd, Z.plain, Z.led, Z.room, Z.few⟩
theorem NSet0.full {w : World} {h : Heap} {a : Addr} {L : List (Addr × NestedKey)} (Z : NSet0 w h a L) (key : ∀ q ∈ L, NIs h q.2 q.1) : ∃ xs ep t, NSet w h a L xs ep t :=
  let ⟨o, xs, ep, t, h1, h2, h3, h4, h5, h6, h7, h8, h9, h10⟩ := Z
  ⟨xs, ep, t, { ob := ⟨o, h1, h2, h3⟩, rows := h4, tab := h5, nd := h6, key := key, plain := h7, led := h8, room := h9, few := h10 }⟩
def SetNO (w : World) (a : Addr) (L : List (Addr × NestedKey)) : HO := .ext fun h => NSet0 w h a L
theorem setNO_new {w : World} {P : Program} {H : Hp} {h : Heap} {a : Addr} {L : List (Addr × NestedKey)} (Z : NSet0 w h a L) : ObjOk P w H h a (SetNO w a L) := by
  have ⟨o, _, _, _, ho, _⟩ := Z
  exact ⟨Z, ⟨o, ho⟩, fun h1 h2 p k => let ⟨o, xs, ep, t, e, r⟩ := p; ⟨o, xs, ep, t, k o e, r⟩⟩
/-! ### keys, by values -/
mutual
def KeyV (K : PySem.W.Frag) (H : Hp) : NestedKey → V → Prop
  | .none, v => v = .non
  | .num i, v => v = .int i ∨ ∃ b : Bool, v = .bl b ∧ i = if b = true then 1 else 0
  | .text x, v => v = .str x
  | .tup ks, v => ∃ b xs, v = .ref b ∧ SqT K H b xs ∧ KeysV K H ks xs
def KeysV (K : PySem.W.Frag) (H : Hp) : List NestedKey → List V → Prop
  | [], xs => xs = []
  | k :: ks, xs => ∃ x r, xs = x :: r ∧ KeyV K H k x ∧ KeysV K H ks r
end
section
variable {X : Cx} {pins : List (Addr × Obj)} {σ : L2.St} {H : Hp} {s : Shared}
mutual
theorem keyV_is (I : Inv X pins σ H s) : ∀ (k : NestedKey) (v : V) (u : Value), KeyV X.K H k v → RelV v u → NestedIs s.heap k u
  | .none, _, _, h, r => by cases (show _ = V.non from h); cases r; exact .none
  | .num i, _, _, h, r => by
    rcases h with rfl | ⟨b, rfl, e⟩
    · obtain ⟨t, rfl⟩ := r; exact .int _ _
    · cases r; exact .bool e
  | .text x, _, _, h, r => by cases (show _ = V.str x from h); obtain ⟨t, rfl⟩ := r; exact .text _ _
  | .tup ks, _, _, h, r => by
    obtain ⟨b, xs, rfl, h1, h2⟩ := h
    cases r
    obtain ⟨its, r1, e1, _⟩ := I.tuple h1
    obtain ⟨o, e2, e3, n, e4⟩ := e1
    exact .tup e2 e3 e4 (keysV_is I ks xs its h2 r1)
theorem keysV_is (I : Inv X pins σ H s) : ∀ (ks : List NestedKey) (xs : List V) (us : List Value), KeysV X.K H ks xs → Vals xs us → NestedAll s.heap ks us
  | [], _, _, h, r => by cases (show _ = [] from h); cases r; exact .nil
  | k :: ks, _, _, h, r => by
    obtain ⟨x, q, rfl, h1, h2⟩ := h
    cases r with
    | cons r1 r2 => exact .cons (keyV_is I k x _ h1 r1) (keysV_is I ks q _ h2 r2)
end
/-- a key that may stand in such a set -/
def KeyO (K : PySem.W.Frag) (H : Hp) (k : NestedKey) (b : Addr) : Prop := KeyV K H k (.ref b) ∧ k.depth ≤ 8 ∧ noTxt k = true
theorem KeyO.is {k : NestedKey} {b : Addr} (I : Inv X pins σ H s) (h : KeyO X.K H k b) : NIs s.heap k b := ⟨keyV_is I k _ _ h.1 rfl, h.2⟩
theorem setNO_get {a : Addr} {L : List (Addr × NestedKey)} (I : Inv X pins σ H s) (e : H a = some (SetNO X.w a L)) (key : ∀ q ∈ L, KeyO X.K H q.2 q.1) : ∃ xs ep t, NSet X.w s.heap a L xs ep t :=
  NSet0.full (I.hok a _ e).1 fun q m => (key q m).is I
def rNIn (K : PySem.W.Frag) (w : World) (neg : Bool) : R2 := fun x y H Q => ∃ (b a : Addr) (L : List (Addr × NestedKey)) (k : NestedKey), x = V.ref b ∧ y = V.ref a ∧ H a = some (SetNO w a L) ∧ (∀ q ∈ L, KeyO K H q.2 q.1) ∧ KeyO K H k b ∧ Q (.bl (if neg then !decide (k ∈ L.map (·.2)) else decide (k ∈ L.map (·.2)))) H
theorem op_nin (hu : X.A.units + 12 < cLine) : OpR X (compareOp .In) (rNIn X.K X.w false) := by
  intro pins s σ H x y v u Q I rx ry h
  obtain ⟨b, a, L, k, rfl, rfl, e, key, kb, q⟩ := h
  cases rx
  cases ry
  obtain ⟨xs, ep, t, Z⟩ := setNO_get I e key
  show wpAny _ _ ((do return Value.bool (← contains (.ref a) (.ref b))) : Sem Value) _ _ s
  exact wpAny_bind (ncontains Z (kb.is I) hu (wpAny_pure ⟨.bl (decide (k ∈ L.map fun p : Addr × NestedKey => p.2)), H, I.tok _, rfl, q⟩))
theorem op_nnin (hu : X.A.units + 12 < cLine) : OpR X (compareOp .NotIn) (rNIn X.K X.w true) := by
  intro pins s σ H x y v u Q I rx ry h
  obtain ⟨b, a, L, k, rfl, rfl, e, key, kb, q⟩ := h
  cases rx
  cases ry
  obtain ⟨xs, ep, t, Z⟩ := setNO_get I e key
  show wpAny _ _ ((do return Value.bool (!(← contains (.ref a) (.ref b)))) : Sem Value) _ _ s
  exact wpAny_bind (ncontains Z (kb.is I) hu (wpAny_pure ⟨.bl (!decide (k ∈ L.map fun p : Addr × NestedKey => p.2)), H, I.tok _, rfl, q⟩))
def rNAdd (K : PySem.W.Frag) (w : World) : V → List V → Hp → VK → Prop := fun x xs H Q => ∃ (a b : Addr) (L : List (Addr × NestedKey)) (k : NestedKey), x = V.ref a ∧ xs = [V.ref b] ∧ H a = some (SetNO w a L) ∧ (∀ q ∈ L, KeyO K H q.2 q.1) ∧ KeyO K H k b ∧ L.length + 1 < 64 ∧
  ∀ L2, (k ∈ L.map (·.2) → L2 = L) → (k ∉ L.map (·.2) → L2.Perm ((b, k) :: L)) → Q .non (upd H a (SetNO w a L2))
theorem mt_nadd (hu : X.A.units + 12 < cLine) : MtR X "set.add" (rNAdd X.K X.w) := by
  intro pins s σ H x xs v us Q I rx rxs h
  obtain ⟨a, b, L, k, rfl, rfl, e, key, kb, few, q⟩ := h
  cases rx
  cases rxs with
  | cons ry rt =>
    cases rt
    cases ry
    obtain ⟨es, ep, t, Z⟩ := setNO_get I e key
    refine nadd Z (kb.is I) (by omega) few fun hp L2 xs2 ep2 t2 tk sb Z2 y n => ?_
    have he : ∃ u, hp.get? a = some u := let ⟨o, ho, _⟩ := Z2.ob; ⟨o, ho⟩
    exact ⟨.non, _, I.write (e := a) (t' := tk) (by rw [e]; trivial) (.inl rfl) (fun c u hc hu => (sb.2 c hc).trans hu) he (setNO_new Z2.bare), rfl, q L2 y n⟩
theorem cr_nset0 : CallR X (.type "set") (fun xs H Q => xs = [] ∧ ∀ p, H p = none → Q (.ref p) (upd H p (SetNO X.w p []))) := by
  intro pins s σ H xs us Q I r h
  obtain ⟨rfl, q⟩ := h
  cases r
  refine setR_new fun _ => ?_
  refine ⟨.ref _, _, I.laid (t' := s.toks) (fun b u e => Heap.get?_push_of_some _ e) (Nat.le_refl _) (setNO_new (nset_fresh (w := X.w) ?_).bare), rfl, q _ (I.hok.fresh (Nat.le_refl _))⟩
  exact Heap.get?_push_size _ rfl
end
end DLN

namespace DL
open PySem PySem.Spec PyProof.Rows L2

/-! ### data as trees -/
inductive D where
  | non | bl (b : Bool) | int (i : Int) | str (s : Str)
  | lst (l : List D) | tup (l : List D)
  | ins (c : Nat) (fs : List (Str × D))
  /-- a class of the text -/
  | cls (c : Nat)
  /-- a list that is read alone: the script, a written one -/
  | fl (l : List D)

structure Wd where
  K : PySem.W.Frag
  cl : Nat → Addr
  w : World

/-- a value as a slot holds it: a tree, or a thing that may change, by its address -/
inductive SV where
  | d (x : D)
  | ob (a : Addr)
inductive MO where
  | lst (l : List SV)
  | ins (c : Nat) (fs : List (Str × SV))
  | exc (c : Nat) (fs : List (Str × SV))
  | tset (ks : List Str)
  /-- a dict with int and text keys; locked: walked just now -/
  | dct (kvs : List (Key × SV))
  | dctL (kvs : List (Key × SV))
  /-- a set whose members are tuples of numbers, truth values, None and such tuples -/
  | nset (ds : List D)
  | rng (lo hi : Int)
abbrev G := Addr → Option MO

def gset (g : G) (a : Addr) (o : MO) : G := fun b => if b = a then some o else g b
def gdel (g : G) (a : Addr) : G := fun b => if b = a then none else g b
theorem gset_same {g : G} {a : Addr} {o : MO} : gset g a o a = some o := by unfold gset; rw [if_pos rfl]
theorem gset_ne {g : G} {a b : Addr} {o : MO} (h : b ≠ a) : gset g a o b = g b := by unfold gset; rw [if_neg h]
theorem gdel_same {g : G} {a : Addr} : gdel g a a = none := by unfold gdel; rw [if_pos rfl]
theorem gdel_ne {g : G} {a b : Addr} (h : b ≠ a) : gdel g a b = g b := by unfold gdel; rw [if_neg h]
theorem gset_gset {g : G} {a : Addr} {o u : MO} : gset (gset g a o) a u = gset g a u := by
  funext b; unfold gset; split <;> rfl
theorem gset_self {g : G} {a : Addr} {o : MO} (h : g a = some o) : gset g a o = g := by
  funext b; unfold gset; split
  · rename_i e; rw [e, h]
  · rfl
theorem gset_comm {g : G} {a b : Addr} {o u : MO} (h : a ≠ b) : gset (gset g a o) b u = gset (gset g b u) a o := by
  funext c; unfold gset
  by_cases h1 : c = a
  · subst h1; rw [if_neg h, if_pos rfl, if_pos rfl]
  · by_cases h2 : c = b
    · subst h2; rw [if_pos rfl, if_neg h1, if_pos rfl]
    · rw [if_neg h2, if_neg h1, if_neg h1, if_neg h2]

mutual
/-- a tree as a key -/
def keyN : D → Option NestedKey
  | .non => some .none
  | .bl b => some (.num (if b = true then 1 else 0))
  | .int i => some (.num i)
  | .tup l => (keyNs l).map .tup
  | _ => none
def keyNs : List D → Option (List NestedKey)
  | [] => some []
  | d :: l => (keyN d).bind fun k => (keyNs l).map (k :: ·)
end
/-- a list, a tuple of the written part -/
def KL (K : PySem.W.Frag) (a : Addr) (xs : List V) : Prop :=
  ∃ (o : Obj) (its : Array Value) (n : Nat), K.lookup a = some o ∧ o.cls = .type "list" ∧ o.dict = none ∧ o.data = .seq its n ∧ its.size ≤ sizeLine ∧ Vals xs its.toList
def KT (K : PySem.W.Frag) (a : Addr) (xs : List V) : Prop :=
  ∃ (o : Obj) (its : Array Value) (n : Nat), K.lookup a = some o ∧ o.cls = .type "tuple" ∧ o.data = .seq its n ∧ its.size ≤ sizeLine ∧ Vals xs its.toList
/-- a list, a tuple that is read as a tree: tracked and not one that may change, or a written one -/
def SL (K : PySem.W.Frag) (H : Hp) (g : G) (a : Addr) (xs : List V) : Prop := (Rd H a (.lst xs) ∧ g a = none) ∨ KL K a xs
def LL (H : Hp) (g : G) (a : Addr) (xs : List V) : Prop := H a = some (.lst xs) ∧ g a = none
theorem LL.sq {K : PySem.W.Frag} {H : Hp} {g : G} {a : Addr} {xs : List V} (h : LL H g a xs) : SqL K H a xs := .inl (.inl h.1)
def ST (K : PySem.W.Frag) (H : Hp) (g : G) (a : Addr) (xs : List V) : Prop := (Rd H a (.tup xs) ∧ g a = none) ∨ KT K a xs
theorem SL.sq {K : PySem.W.Frag} {H : Hp} {g : G} {a : Addr} {xs : List V} (h : SL K H g a xs) : SqL K H a xs := by
  rcases h with ⟨h, _⟩ | h
  · exact .inl h
  · exact .inr h
theorem ST.sq {K : PySem.W.Frag} {H : Hp} {g : G} {a : Addr} {xs : List V} (h : ST K H g a xs) : SqT K H a xs := by
  rcases h with ⟨h, _⟩ | h
  · exact .inl h
  · exact .inr h

section
variable (W : Wd) (H : Hp) (g : G)
mutual
def Rep : D → V → Prop
  | .non, v => v = .non
  | .bl b, v => v = .bl b
  | .int i, v => v = .int i
  | .str s, v => v = .str s
  | .lst l, v => ∃ a xs, v = .ref a ∧ LL H g a xs ∧ Reps l xs
  | .cls c, v => v = .ref (W.cl c)
  | .fl l, v => ∃ a xs, v = .ref a ∧ SL W.K H g a xs ∧ Reps l xs
  | .tup l, v => ∃ a xs, v = .ref a ∧ ST W.K H g a xs ∧ Reps l xs
  | .ins c fs, v => ∃ a dx vs, v = .ref a ∧ H a = some (.ins (W.cl c) dx vs) ∧ g a = none ∧ Repf fs vs
def Reps : List D → List V → Prop
  | [], xs => xs = []
  | d :: l, xs => ∃ x r, xs = x :: r ∧ Rep d x ∧ Reps l r
def Repf : List (Str × D) → List (Str × V) → Prop
  | [], xs => xs = []
  | p :: l, xs => ∃ x r, xs = (p.1, x) :: r ∧ Rep p.2 x ∧ Repf l r
end
def RepS : SV → V → Prop
  | .d x, v => Rep W H g x v
  | .ob a, v => v = .ref a
def RepSs : List SV → List V → Prop
  | [], xs => xs = []
  | d :: l, xs => ∃ x r, xs = x :: r ∧ RepS W H g d x ∧ RepSs l r
def RepSf {κ : Type} : List (κ × SV) → List (κ × V) → Prop
  | [], xs => xs = []
  | p :: l, xs => ∃ x r, xs = (p.1, x) :: r ∧ RepS W H g p.2 x ∧ RepSf l r
/-- the members of such a set and their trees -/
def KRep : List (Addr × NestedKey) → List D → Prop
  | [], ds => ds = []
  | q :: L, ds => ∃ d r, ds = d :: r ∧ (Rep W H g d (.ref q.1) ∧ keyN d = some q.2 ∧ q.2.depth ≤ 8) ∧ KRep L r
def MRep (a : Addr) : MO → Prop
  | .lst l => ∃ xs, H a = some (.lst xs) ∧ RepSs W H g l xs
  | .ins c fs => ∃ dx vs, H a = some (.ins (W.cl c) dx vs) ∧ RepSf W H g fs vs
  | .exc c fs => ∃ (d : Option Addr) (vs : List (Str × V)), H a = some (exo a (W.cl c) d) ∧ RepSf W H g fs vs ∧ (match d with | none => fs = [] | some dx => (H dx = some (exd dx vs) ∧ g dx = none) ∧ fs ≠ [])
  | .tset ks => H a = some (DLS.SetTO W.w a ks)
  | .dct kvs => ∃ xs, H a = some (.dK xs) ∧ RepSf W H g kvs xs
  | .dctL kvs => ∃ o xs, H a = some (.frz o (.dK xs)) ∧ RepSf W H g kvs xs
  | .nset ds => ∃ L, H a = some (DLN.SetNO W.w a L) ∧ KRep W H g L ds
  | .rng lo hi => H a = some (.rng lo hi)
def GOk : Prop := ∀ a o, g a = some o → MRep W H g a o
end

/-- all that was there and may not change is as it was -/
def Ext (g : G) (H : Hp) (g' : G) (H' : Hp) : Prop := ∀ a o, H a = some o → g a = none → H' a = some o ∧ g' a = none
theorem Ext.refl (g : G) (H : Hp) : Ext g H g H := fun _ _ h n => ⟨h, n⟩
theorem Ext.trans {g g1 g2 : G} {H H1 H2 : Hp} (a : Ext g H g1 H1) (b : Ext g1 H1 g2 H2) : Ext g H g2 H2 := fun x o h n =>
  let ⟨h1, n1⟩ := a x o h n
  b x o h1 n1

section
variable {W : Wd} {K : PySem.W.Frag} {H H' H1 H2 : Hp} {g g' g1 g2 : G} {a : Addr} {xs : List V}
theorem Ext.rd {u : HO} (e : Ext g H g' H') (h : Rd H a u) (n : g a = none) : Rd H' a u ∧ g' a = none := by
  rcases h with h | ⟨o, h⟩
  · exact ⟨.inl (e a _ h n).1, (e a _ h n).2⟩
  · exact ⟨.inr ⟨o, (e a _ h n).1⟩, (e a _ h n).2⟩
theorem SL.ext (e : Ext g H g' H') (h : SL K H g a xs) : SL K H' g' a xs := by
  rcases h with ⟨h, n⟩ | h
  · exact .inl (e.rd h n)
  · exact .inr h
theorem LL.ext (e : Ext g H g' H') (h : LL H g a xs) : LL H' g' a xs := ⟨(e a _ h.1 h.2).1, (e a _ h.1 h.2).2⟩
theorem ST.ext (e : Ext g H g' H') (h : ST K H g a xs) : ST K H' g' a xs := by
  rcases h with ⟨h, n⟩ | h
  · exact .inl (e.rd h n)
  · exact .inr h
mutual
theorem Rep.ext (e : Ext g H g' H') : ∀ (d : D) (v : V), Rep W H g d v → Rep W H' g' d v
  | .non, _, h => h
  | .bl _, _, h => h
  | .int _, _, h => h
  | .str _, _, h => h
  | .lst l, _, h => by
    obtain ⟨a, xs, rfl, h1, h2⟩ := h
    exact ⟨a, xs, rfl, h1.ext e, Reps.ext e l xs h2⟩
  | .tup l, _, h => by
    obtain ⟨a, xs, rfl, h1, h2⟩ := h
    exact ⟨a, xs, rfl, h1.ext e, Reps.ext e l xs h2⟩
  | .ins c fs, _, h => by
    obtain ⟨a, dx, vs, rfl, h1, h2, h3⟩ := h
    exact ⟨a, dx, vs, rfl, (e a _ h1 h2).1, (e a _ h1 h2).2, Repf.ext e fs vs h3⟩
  | .cls _, _, h => h
  | .fl l, _, h => by
    obtain ⟨a, xs, rfl, h1, h2⟩ := h
    exact ⟨a, xs, rfl, h1.ext e, Reps.ext e l xs h2⟩
theorem Reps.ext (e : Ext g H g' H') : ∀ (l : List D) (xs : List V), Reps W H g l xs → Reps W H' g' l xs
  | [], _, h => h
  | d :: l, _, h => by
    obtain ⟨x, r, rfl, h1, h2⟩ := h
    exact ⟨x, r, rfl, Rep.ext e d x h1, Reps.ext e l r h2⟩
theorem Repf.ext (e : Ext g H g' H') : ∀ (l : List (Str × D)) (xs : List (Str × V)), Repf W H g l xs → Repf W H' g' l xs
  | [], _, h => h
  | p :: l, _, h => by
    obtain ⟨x, r, rfl, h1, h2⟩ := h
    exact ⟨x, r, rfl, Rep.ext e p.2 x h1, Repf.ext e l r h2⟩
end
theorem RepS.ext (e : Ext g H g' H') {s : SV} {v : V} (h : RepS W H g s v) : RepS W H' g' s v := by
  cases s with
  | d x => exact Rep.ext e x v h
  | ob a => exact h
theorem RepSs.ext (e : Ext g H g' H') : ∀ {l : List SV} {xs : List V}, RepSs W H g l xs → RepSs W H' g' l xs
  | [], _, h => h
  | d :: l, _, h => by
    obtain ⟨x, r, rfl, h1, h2⟩ := h
    exact ⟨x, r, rfl, h1.ext e, RepSs.ext e h2⟩
theorem RepSf.ext {κ : Type} (e : Ext g H g' H') : ∀ {l : List (κ × SV)} {xs : List (κ × V)}, RepSf W H g l xs → RepSf W H' g' l xs
  | [], _, h => h
  | p :: l, _, h => by
    obtain ⟨x, r, rfl, h1, h2⟩ := h
    exact ⟨x, r, rfl, h1.ext e, RepSf.ext e h2⟩
theorem KRep.ext (e : Ext g H g' H') : ∀ {L : List (Addr × NestedKey)} {ds : List D}, KRep W H g L ds → KRep W H' g' L ds
  | [], _, h => h
  | q :: L, _, h => by
    obtain ⟨d, r, rfl, ⟨h1, h2⟩, h3⟩ := h
    exact ⟨d, r, rfl, ⟨Rep.ext e d _ h1, h2⟩, KRep.ext e h3⟩
theorem MRep.ext (e : Ext g H g' H') (k : H' a = H a) {o : MO} (h : MRep W H g a o) : MRep W H' g' a o := by
  cases o with
  | lst l =>
    obtain ⟨xs, h1, h2⟩ := h
    exact ⟨xs, k.trans h1, h2.ext e⟩
  | ins c fs =>
    obtain ⟨dx, vs, h1, h2⟩ := h
    exact ⟨dx, vs, k.trans h1, h2.ext e⟩
  | exc c fs =>
    obtain ⟨d, vs, h1, h2, h3⟩ := h
    refine ⟨d, vs, k.trans h1, h2.ext e, ?_⟩
    cases d with
    | none => exact h3
    | some dx => exact ⟨e dx _ h3.1.1 h3.1.2, h3.2⟩
  | tset ks => exact k.trans h
  | dct kvs =>
    obtain ⟨xs, h1, h2⟩ := h
    exact ⟨xs, k.trans h1, h2.ext e⟩
  | dctL kvs =>
    obtain ⟨o, xs, h1, h2⟩ := h
    exact ⟨o, xs, k.trans h1, h2.ext e⟩
  | nset ds =>
    obtain ⟨L, h1, h2⟩ := h
    exact ⟨L, k.trans h1, h2.ext e⟩
  | rng lo hi => exact k.trans h
theorem MRep.some {o : MO} (h : MRep W H g a o) : ∃ u, H a = some u := by
  cases o with
  | lst l => obtain ⟨xs, h1, _⟩ := h; exact ⟨_, h1⟩
  | ins c fs => obtain ⟨dx, vs, h1, _⟩ := h; exact ⟨_, h1⟩
  | exc c fs => obtain ⟨d, vs, h1, _⟩ := h; exact ⟨_, h1⟩
  | tset ks => exact ⟨_, h⟩
  | dct kvs => obtain ⟨xs, h1, _⟩ := h; exact ⟨_, h1⟩
  | dctL kvs => obtain ⟨o, xs, h1, _⟩ := h; exact ⟨_, h1⟩
  | nset ds => obtain ⟨L, h1, _⟩ := h; exact ⟨_, h1⟩
  | rng lo hi => exact ⟨_, h⟩
theorem GOk.free (k : GOk W H g) (h : H a = none) : g a = none := by
  cases e : g a with
  | none => rfl
  | some o =>
    obtain ⟨u, q⟩ := (k a o e).some
    rw [h] at q; cases q

/-- a new thing is laid -/
theorem Ext.new {p : Addr} {o : HO} (h : H p = none) : Ext g H g (upd H p o) := fun a u e n => ⟨by rw [upd_ne (ne_of_none e h)]; exact e, n⟩
theorem GOk.new {p : Addr} {o : HO} (k : GOk W H g) (h : H p = none) : GOk W (upd H p o) g := fun a u e =>
  (k a u e).ext (Ext.new h) (upd_ne (fun z => by have := k.free h; rw [← z, e] at this; cases this))
/-- a new thing that may change -/
theorem Ext.newOb {p : Addr} {o : HO} {m : MO} (h : H p = none) : Ext g H (gset g p m) (upd H p o) := fun a u e n =>
  ⟨by rw [upd_ne (ne_of_none e h)]; exact e, by rw [gset_ne (ne_of_none e h)]; exact n⟩
theorem GOk.newOb {p : Addr} {o : HO} {m : MO} (k : GOk W H g) (h : H p = none) (hm : MRep W (upd H p o) (gset g p m) p m) : GOk W (upd H p o) (gset g p m) := fun a u e => by
  by_cases z : a = p
  · subst z
    rw [gset_same] at e; cases e; exact hm
  · rw [gset_ne z] at e
    exact (k a u e).ext (Ext.newOb h) (upd_ne z)
/-- a thing that may change is changed -/
theorem Ext.mut {p : Addr} {o : HO} {m m' : MO} (h : g p = some m) : Ext g H (gset g p m') (upd H p o) := fun a u e n => by
  have z : a ≠ p := fun z => by subst z; rw [h] at n; cases n
  exact ⟨by rw [upd_ne z]; exact e, by rw [gset_ne z]; exact n⟩
theorem GOk.mut {p : Addr} {o : HO} {m m' : MO} (k : GOk W H g) (h : g p = some m) (hm : MRep W (upd H p o) (gset g p m') p m') : GOk W (upd H p o) (gset g p m') := fun a u e => by
  by_cases z : a = p
  · subst z
    rw [gset_same] at e; cases e; exact hm
  · rw [gset_ne z] at e
    exact (k a u e).ext (Ext.mut h) (upd_ne z)
/-- a thing that may change no longer does -/
theorem Ext.freeze {p : Addr} : Ext g H (gdel g p) H := fun a u e n => ⟨e, by
  by_cases z : a = p
  · subst z; exact gdel_same
  · rw [gdel_ne z]; exact n⟩
theorem GOk.freeze {p : Addr} (k : GOk W H g) : GOk W H (gdel g p) := fun a u e => by
  have z : a ≠ p := fun z => by subst z; rw [gdel_same] at e; cases e
  rw [gdel_ne z] at e
  exact (k a u e).ext Ext.freeze rfl
/-- a list's items, all trees -/
theorem reps_of : ∀ {l : List D} {xs : List V}, RepSs W H g (l.map SV.d) xs → Reps W H g l xs
  | [], _, h => h
  | d :: l, _, h => by
    obtain ⟨x, r, rfl, h1, h2⟩ := h
    exact ⟨x, r, rfl, h1, reps_of h2⟩
theorem reps_to : ∀ {l : List D} {xs : List V}, Reps W H g l xs → RepSs W H g (l.map SV.d) xs
  | [], _, h => h
  | d :: l, _, h => by
    obtain ⟨x, r, rfl, h1, h2⟩ := h
    exact ⟨x, r, rfl, h1, reps_to h2⟩
theorem Reps.length : ∀ {l : List D} {xs : List V}, Reps W H g l xs → l.length = xs.length
  | [], _, h => by cases (show _ = [] from h); rfl
  | d :: l, _, h => by
    obtain ⟨x, r, rfl, h1, h2⟩ := h
    exact congrArg (· + 1) (Reps.length h2)
theorem RepSs.length : ∀ {l : List SV} {xs : List V}, RepSs W H g l xs → l.length = xs.length
  | [], _, h => by cases (show _ = [] from h); rfl
  | d :: l, _, h => by
    obtain ⟨x, r, rfl, h1, h2⟩ := h
    exact congrArg (· + 1) (RepSs.length h2)
theorem Reps.get : ∀ {l : List D} {xs : List V} {i : Nat} {d : D}, Reps W H g l xs → l[i]? = some d → ∃ x, xs[i]? = some x ∧ Rep W H g d x
  | [], _, _, _, _, e => by simp at e
  | c :: l, _, 0, d, h, e => by
    obtain ⟨x, r, rfl, h1, h2⟩ := h
    simp at e; subst e
    exact ⟨x, rfl, h1⟩
  | c :: l, _, i + 1, d, h, e => by
    obtain ⟨x, r, rfl, h1, h2⟩ := h
    obtain ⟨y, q1, q2⟩ := Reps.get (i := i) (d := d) h2 (by simpa using e)
    exact ⟨y, by simpa using q1, q2⟩
theorem Reps.got : ∀ {l : List D} {xs : List V} {i : Nat} {x : V}, Reps W H g l xs → xs[i]? = some x → ∃ d, l[i]? = some d ∧ Rep W H g d x
  | [], _, _, _, h, e => by cases (show _ = [] from h); simp at e
  | c :: l, _, 0, d, h, e => by
    obtain ⟨x, r, rfl, h1, h2⟩ := h
    simp at e; subst e
    exact ⟨c, rfl, h1⟩
  | c :: l, _, i + 1, d, h, e => by
    obtain ⟨x, r, rfl, h1, h2⟩ := h
    obtain ⟨y, q1, q2⟩ := Reps.got (i := i) (x := d) h2 (by simpa using e)
    exact ⟨y, by simpa using q1, q2⟩
theorem RepSs.get : ∀ {l : List SV} {xs : List V} {i : Nat} {d : SV}, RepSs W H g l xs → l[i]? = some d → ∃ x, xs[i]? = some x ∧ RepS W H g d x
  | [], _, _, _, _, e => by simp at e
  | c :: l, _, 0, d, h, e => by
    obtain ⟨x, r, rfl, h1, h2⟩ := h
    simp at e; subst e
    exact ⟨x, rfl, h1⟩
  | c :: l, _, i + 1, d, h, e => by
    obtain ⟨x, r, rfl, h1, h2⟩ := h
    obtain ⟨y, q1, q2⟩ := RepSs.get (i := i) (d := d) h2 (by simpa using e)
    exact ⟨y, by simpa using q1, q2⟩
theorem RepSs.append : ∀ {l m : List SV} {xs ys : List V}, RepSs W H g l xs → RepSs W H g m ys → RepSs W H g (l ++ m) (xs ++ ys)
  | [], _, _, _, h, k => by cases (show _ = [] from h); exact k
  | d :: l, m, _, _, h, k => by
    obtain ⟨x, r, rfl, h1, h2⟩ := h
    exact ⟨x, _, rfl, h1, RepSs.append h2 k⟩
theorem Reps.append : ∀ {l m : List D} {xs ys : List V}, Reps W H g l xs → Reps W H g m ys → Reps W H g (l ++ m) (xs ++ ys)
  | [], _, _, _, h, k => by cases (show _ = [] from h); exact k
  | d :: l, m, _, _, h, k => by
    obtain ⟨x, r, rfl, h1, h2⟩ := h
    exact ⟨x, _, rfl, h1, Reps.append h2 k⟩
theorem Reps.take : ∀ {l : List D} {xs : List V} (n : Nat), Reps W H g l xs → Reps W H g (l.take n) (xs.take n)
  | _, _, 0, _ => rfl
  | [], _, n + 1, h => by cases (show _ = [] from h); rfl
  | d :: l, _, n + 1, h => by
    obtain ⟨x, r, rfl, h1, h2⟩ := h
    exact ⟨x, _, rfl, h1, Reps.take n h2⟩
theorem Reps.drop : ∀ {l : List D} {xs : List V} (n : Nat), Reps W H g l xs → Reps W H g (l.drop n) (xs.drop n)
  | _, _, 0, h => h
  | [], _, n + 1, h => by cases (show _ = [] from h); rfl
  | d :: l, _, n + 1, h => by
    obtain ⟨x, r, rfl, h1, h2⟩ := h
    exact Reps.drop n h2
theorem RepSs.set : ∀ {l : List SV} {xs : List V} {s : SV} {x : V} (i : Nat), RepSs W H g l xs → RepS W H g s x → RepSs W H g (l.set i s) (xs.set i x)
  | [], _, _, _, _, h, _ => by cases (show _ = [] from h); rfl
  | d :: l, _, s, y, 0, h, k => by
    obtain ⟨x, r, rfl, h1, h2⟩ := h
    exact ⟨y, r, rfl, k, h2⟩
  | d :: l, _, s, y, i + 1, h, k => by
    obtain ⟨x, r, rfl, h1, h2⟩ := h
    exact ⟨x, _, rfl, h1, RepSs.set i h2 k⟩
theorem RepSs.dropLast : ∀ {l : List SV} {xs : List V}, RepSs W H g l xs → RepSs W H g l.dropLast xs.dropLast
  | [], _, h => by cases (show _ = [] from h); rfl
  | [d], _, h => by
    obtain ⟨x, r, rfl, h1, h2⟩ := h
    cases (show r = [] from h2); rfl
  | d :: c :: l, _, h => by
    obtain ⟨x, r, rfl, h1, y, s, rfl, h2, h3⟩ := h
    have := RepSs.dropLast (l := c :: l) (xs := y :: s) ⟨y, s, rfl, h2, h3⟩
    exact ⟨x, _, rfl, h1, this⟩
theorem RepSs.eraseIdx : ∀ {l : List SV} {xs : List V} (i : Nat), RepSs W H g l xs → RepSs W H g (l.eraseIdx i) (xs.eraseIdx i)
  | [], _, _, h => by cases (show _ = [] from h); rfl
  | d :: l, _, 0, h => by
    obtain ⟨x, r, rfl, h1, h2⟩ := h
    exact h2
  | d :: l, _, i + 1, h => by
    obtain ⟨x, r, rfl, h1, h2⟩ := h
    exact ⟨x, _, rfl, h1, RepSs.eraseIdx i h2⟩
theorem Repf.look : ∀ {l : List (Str × D)} {vs : List (Str × V)} {f : Str} {d : D}, Repf W H g l vs → l.lookup f = some d → ∃ v, vs.lookup f = some v ∧ Rep W H g d v
  | [], _, _, _, _, e => by simp at e
  | p :: l, _, f, d, h, e => by
    obtain ⟨x, r, rfl, h1, h2⟩ := h
    rw [List.lookup_cons] at e ⊢
    cases q : f == p.1 with
    | true => rw [q] at e; cases e; exact ⟨x, rfl, h1⟩
    | false => rw [q] at e; obtain ⟨v, k1, k2⟩ := Repf.look h2 e; exact ⟨v, k1, k2⟩
theorem Repf.nolook : ∀ {l : List (Str × D)} {vs : List (Str × V)} {f : Str}, Repf W H g l vs → l.lookup f = none → vs.lookup f = none
  | [], _, _, h, _ => by cases (show _ = [] from h); rfl
  | p :: l, _, f, h, e => by
    obtain ⟨x, r, rfl, h1, h2⟩ := h
    rw [List.lookup_cons] at e ⊢
    cases q : f == p.1 with
    | true => rw [q] at e; cases e
    | false => rw [q] at e; exact Repf.nolook h2 e
end
end DL

namespace DL
open PySem PySem.Spec PyProof.Rows L2

structure Sim (W : Wd) (ρ : List (Option SV)) (g : G) (σ : L2.St) (H : Hp) : Prop where
  ok : GOk W H g
  len : ρ.length = σ.length
  get : ∀ (i : Nat) (sv : SV), ρ[i]? = some (some sv) → ∃ v, σ[i]? = some (some v) ∧ RepS W H g sv v
abbrev QE := SV → G → Prop
abbrev Rho := List (Option SV)
section
variable {W : Wd} {ρ : Rho} {g g' : G} {σ : L2.St} {H H' : Hp}
theorem Sim.ext (S : Sim W ρ g σ H) (k : GOk W H' g') (e : Ext g H g' H') : Sim W ρ g' σ H' :=
  ⟨k, S.len, fun i sv h => let ⟨v, h1, h2⟩ := S.get i sv h; ⟨v, h1, h2.ext e⟩⟩
theorem Sim.set {sv : SV} {v : V} (i : Nat) (S : Sim W ρ g σ H) (r : RepS W H g sv v) : Sim W (ρ.set i (some sv)) g (σ.set i (some v)) H := by
  refine ⟨S.ok, by simpa using S.len, fun j s h => ?_⟩
  by_cases z : i = j
  · subst z
    by_cases hi : i < ρ.length
    · rw [List.getElem?_set_self hi] at h
      cases h
      exact ⟨v, by rw [List.getElem?_set_self (by rw [← S.len]; exact hi)], r⟩
    · rw [List.getElem?_eq_none (by simpa using hi)] at h; cases h
  · rw [List.getElem?_set_ne z] at h ⊢
    exact S.get j s h
theorem Sim.forget (i : Nat) (S : Sim W ρ g σ H) : Sim W (ρ.set i none) g σ H := by
  refine ⟨S.ok, by simpa using S.len, fun j s h => ?_⟩
  by_cases z : i = j
  · subst z
    by_cases hi : i < ρ.length
    · rw [List.getElem?_set_self hi] at h; cases h
    · rw [List.getElem?_eq_none (by simpa using hi)] at h; cases h
  · rw [List.getElem?_set_ne z] at h
    exact S.get j s h
theorem Sim.unset {σ' : L2.St} (i : Nat) (S : Sim W ρ g σ H) (hl : σ'.length = σ.length) (hσ : ∀ j, j ≠ i → σ'[j]? = σ[j]?) : Sim W (ρ.set i none) g σ' H := by
  refine ⟨S.ok, by rw [hl]; simpa using S.len, fun j s h => ?_⟩
  by_cases z : i = j
  · subst z
    by_cases hi : i < ρ.length
    · rw [List.getElem?_set_self hi] at h; cases h
    · rw [List.getElem?_eq_none (by simpa using hi)] at h; cases h
  · rw [List.getElem?_set_ne z] at h
    rw [hσ j (fun q => z q.symm)]
    exact S.get j s h
end

/-! ### the strongest readings -/
section
variable (X : Cx)
def tS (e : Expr) : TE := fun σ H Q => ∀ pins s, Inv X pins σ H s → wpAny (model X.prog X.w) X.A (eval e X.env) (EP X pins σ Q) X.xe s
def tST (e : Expr) : TT := fun σ H Q => ∀ pins s, Inv X pins σ H s → wpAny (model X.prog X.w) X.A (isTrue e X.env (eval e X.env)) (TP X pins σ Q) X.xe s
def tSW (e : Expr) : TT := fun σ H Q => ∀ whole pins s, Inv X pins σ H s → wpAny (model X.prog X.w) X.A (isTrue e X.env whole) (TP X pins σ Q) X.xe s
def tSA (es : List Expr) : TA := fun σ H Q => ∀ pos pins s, Inv X pins σ H s → wpAny (model X.prog X.w) X.A (spliced (backTo pos (starEach es X.env))) (AP X pins σ Q) X.xe s
def tS1 (st : Stmt) : TS := fun D σ H => ∀ pins s, Inv X pins σ H s → wpAny (model X.prog X.w) X.A (exec st X.env) (SP X pins D) X.xe s
def tSs (st : List Stmt) : TS := fun D σ H => ∀ pins s, Inv X pins σ H s → wpAny (model X.prog X.w) X.A (execs st X.env) (SP X pins D) X.xe s
end
section
variable {X : Cx} {e : Expr} {es : List Expr} {st : Stmt} {sts : List Stmt} {σ : L2.St} {H : Hp}
theorem pe_s : PE X e (tS X e) := ⟨fun pins s _ _ _ I h => h pins s I⟩
theorem pt_s : PT X e (tST X e) := ⟨fun pins s _ _ _ I h => h pins s I⟩
theorem pw_s : PW X e (tSW X e) := ⟨fun whole pins s _ _ _ I h => h whole pins s I⟩
theorem pa_s : PA X es (tSA X es) := ⟨fun pos pins s _ _ _ I h => h pos pins s I⟩
theorem ps_s : PS X st (tS1 X st) := ⟨fun pins s _ _ _ I h => h pins s I⟩
theorem pss_s : PSs X sts (tSs X sts) := ⟨fun pins s _ _ _ I h => h pins s I⟩
theorem ts_of {t : TE} (h : PE X e t) {Q : VK} (q : t σ H Q) : tS X e σ H Q := fun pins s I => h.run pins s σ H Q I q
theorem tt_of {t : TT} (h : PT X e t) {Q : Bool → Hp → Prop} (q : t σ H Q) : tST X e σ H Q := fun pins s I => h.run pins s σ H Q I q
theorem tw_of {t : TT} (h : PW X e t) {Q : Bool → Hp → Prop} (q : t σ H Q) : tSW X e σ H Q := fun whole pins s I => h.run whole pins s σ H Q I q
theorem ta_of {t : TA} (h : PA X es t) {Q : List V → Hp → Prop} (q : t σ H Q) : tSA X es σ H Q := fun pos pins s I => h.run pos pins s σ H Q I q
theorem t1_of {t : TS} (h : PS X st t) {D : Ends} (q : t D σ H) : tS1 X st D σ H := fun pins s I => h.run pins s σ H D I q
theorem tss_of {t : TS} (h : PSs X sts t) {D : Ends} (q : t D σ H) : tSs X sts D σ H := fun pins s I => h.run pins s σ H D I q
end

/-! ### what is wanted, over trees -/
section
variable (X : Cx) (W : Wd)
def PostE (g : G) (H : Hp) (Q : QE) (v : V) (H' : Hp) : Prop := ∃ r g', GOk W H' g' ∧ Ext g H g' H' ∧ RepS W H' g' r v ∧ Q r g'
def PostT (g : G) (H : Hp) (Q : Bool → G → Prop) (b : Bool) (H' : Hp) : Prop := ∃ g', GOk W H' g' ∧ Ext g H g' H' ∧ Q b g'
def PostA (g : G) (H : Hp) (Q : List SV → G → Prop) (vs : List V) (H' : Hp) : Prop := ∃ rs g', GOk W H' g' ∧ Ext g H g' H' ∧ RepSs W H' g' rs vs ∧ Q rs g'
def PostS (g : G) (H : Hp) (Q : Rho → G → Prop) (σ' : L2.St) (H' : Hp) : Prop := ∃ ρ' g', Sim W ρ' g' σ' H' ∧ Ext g H g' H' ∧ Q ρ' g'
def WE (e : Expr) (ρ : Rho) (g : G) (Q : QE) : Prop := ∀ σ H, Sim W ρ g σ H → ∀ Q' : VK, (∀ v H', PostE W g H Q v H' → Q' v H') → tS X e σ H Q'
def WT (e : Expr) (ρ : Rho) (g : G) (Q : Bool → G → Prop) : Prop := ∀ σ H, Sim W ρ g σ H → ∀ Q', (∀ b H', PostT W g H Q b H' → Q' b H') → tST X e σ H Q'
def WW (e : Expr) (ρ : Rho) (g : G) (Q : Bool → G → Prop) : Prop := ∀ σ H, Sim W ρ g σ H → ∀ Q', (∀ b H', PostT W g H Q b H' → Q' b H') → tSW X e σ H Q'
def WA (es : List Expr) (ρ : Rho) (g : G) (Q : List SV → G → Prop) : Prop := ∀ σ H, Sim W ρ g σ H → ∀ Q' : List V → Hp → Prop, (∀ vs H', PostA W g H Q vs H' → Q' vs H') → tSA X es σ H Q'
structure P4 where
  nx : Rho → G → Prop
  rt : QE
  bk : Rho → G → Prop := fun _ _ => False
  ct : Rho → G → Prop := fun _ _ => False
structure EndsOk (g : G) (H : Hp) (P : P4) (D : Ends) : Prop where
  nx : ∀ σ' H', PostS W g H P.nx σ' H' → D.nx σ' H'
  rt : ∀ v H', PostE W g H P.rt v H' → D.rt v H'
  bk : ∀ σ' H', PostS W g H P.bk σ' H' → D.bk σ' H'
  ct : ∀ σ' H', PostS W g H P.ct σ' H' → D.ct σ' H'
def WS (sts : List Stmt) (ρ : Rho) (g : G) (P : P4) : Prop := ∀ σ H, Sim W ρ g σ H → ∀ D, EndsOk W g H P D → tSs X sts D σ H
def W1 (st : Stmt) (ρ : Rho) (g : G) (P : P4) : Prop := ∀ σ H, Sim W ρ g σ H → ∀ D, EndsOk W g H P D → tS1 X st D σ H
/-- an operation upon values -/
def RW (r : R2) (x y : SV) (g : G) (Q : QE) : Prop := ∀ H vx vy, GOk W H g → RepS W H g x vx → RepS W H g y vy → ∀ Q' : VK, (∀ v H', PostE W g H Q v H' → Q' v H') → r vx vy H Q'
def RU (r : V → Hp → VK → Prop) (x : SV) (g : G) (Q : QE) : Prop := ∀ H vx, GOk W H g → RepS W H g x vx → ∀ Q' : VK, (∀ v H', PostE W g H Q v H' → Q' v H') → r vx H Q'
def RC (r : List V → Hp → VK → Prop) (xs : List SV) (g : G) (Q : QE) : Prop := ∀ H vs, GOk W H g → RepSs W H g xs vs → ∀ Q' : VK, (∀ v H', PostE W g H Q v H' → Q' v H') → r vs H Q'
def RM (r : V → List V → Hp → VK → Prop) (x : SV) (xs : List SV) (g : G) (Q : QE) : Prop := ∀ H vx vs, GOk W H g → RepS W H g x vx → RepSs W H g xs vs → ∀ Q' : VK, (∀ v H', PostE W g H Q v H' → Q' v H') → r vx vs H Q'
end
section
variable {X : Cx} {W : Wd} {g g1 g2 : G} {H H1 H2 H' : Hp} {ρ : Rho}
theorem PostE.imp {Q Q1 : QE} {v : V} (k : PostE W g H Q v H') (h : ∀ r g', Q r g' → Q1 r g') : PostE W g H Q1 v H' :=
  let ⟨r, g', a, b, c, d⟩ := k; ⟨r, g', a, b, c, h r g' d⟩
theorem PostE.back {Q : QE} {v : V} (e : Ext g H g1 H1) (k : PostE W g1 H1 Q v H') : PostE W g H Q v H' :=
  let ⟨r, g', a, b, c, d⟩ := k; ⟨r, g', a, e.trans b, c, d⟩
theorem PostT.back {Q : Bool → G → Prop} {v : Bool} (e : Ext g H g1 H1) (k : PostT W g1 H1 Q v H') : PostT W g H Q v H' :=
  let ⟨g', a, b, d⟩ := k; ⟨g', a, e.trans b, d⟩
theorem PostA.back {Q : List SV → G → Prop} {v : List V} (e : Ext g H g1 H1) (k : PostA W g1 H1 Q v H') : PostA W g H Q v H' :=
  let ⟨r, g', a, b, c, d⟩ := k; ⟨r, g', a, e.trans b, c, d⟩
theorem PostS.back {Q : Rho → G → Prop} {σ' : L2.St} (e : Ext g H g1 H1) (k : PostS W g1 H1 Q σ' H') : PostS W g H Q σ' H' :=
  let ⟨r, g', a, b, d⟩ := k; ⟨r, g', a, e.trans b, d⟩
theorem EndsOk.back {P : P4} {D : Ends} (e : Ext g H g1 H1) (k : EndsOk W g H P D) : EndsOk W g1 H1 P D :=
  ⟨fun σ' H' h => k.nx σ' H' (h.back e), fun v H' h => k.rt v H' (h.back e), fun σ' H' h => k.bk σ' H' (h.back e), fun σ' H' h => k.ct σ' H' (h.back e)⟩
theorem EndsOk.nxt {P : P4} {D : Ends} {N : Rho → G → Prop} {M : L2.St → Hp → Prop} (k : EndsOk W g H P D) (h : ∀ σ' H', PostS W g H N σ' H' → M σ' H') : EndsOk W g H { P with nx := N } { D with nx := M } := ⟨h, k.rt, k.bk, k.ct⟩
theorem WE.imp {e : Expr} {Q Q1 : QE} (k : WE X W e ρ g Q) (h : ∀ r g', Q r g' → Q1 r g') : WE X W e ρ g Q1 := fun σ H S Q' q => k σ H S Q' fun v H' z => q v H' (z.imp h)
end

/-! ### expressions -/
section
variable {X : Cx} {W : Wd} {ρ : Rho} {g : G} {Q : QE} {pos : Pos} {a b c e : Expr} {es : List Expr}
theorem we_name (i : Nat) {x : Str} {sv : SV} (hi : ρ[i]? = some (some sv)) (q : Q sv g) (hN : X.N[i]? = some x := by rfl) (hv : Vis X.env.scope x := by first | exact Or.inl rfl | exact Or.inr (Or.inl rfl) | exact Or.inr (Or.inr rfl))
    (hd : (x == ("__debug__" : Str)) = false := by decide) (hcd : (x == ("__classdict__" : Str)) = false := by decide) : WE X W (.Name x pos) ρ g Q := fun σ H S Q' q' => by
  obtain ⟨v, h1, h2⟩ := S.get i sv hi
  exact ts_of (pe_var hN hv hd hcd) ⟨v, h1, q' v H ⟨sv, g, S.ok, Ext.refl g H, h2, q⟩⟩
theorem we_int {i : Int} {j} (q : Q (.d (.int i)) g) : WE X W (.Constant (.int i) j pos) ρ g Q := fun σ H S Q' q' => ts_of pe_int (q' _ H ⟨.d (.int i), g, S.ok, Ext.refl g H, rfl, q⟩)
theorem we_bl {i : Bool} {j} (q : Q (.d (.bl i)) g) : WE X W (.Constant (.bool i) j pos) ρ g Q := fun σ H S Q' q' => ts_of pe_bl (q' _ H ⟨.d (.bl i), g, S.ok, Ext.refl g H, rfl, q⟩)
theorem we_non {j} (q : Q (.d .non) g) : WE X W (.Constant .none j pos) ρ g Q := fun σ H S Q' q' => ts_of pe_non (q' _ H ⟨.d .non, g, S.ok, Ext.refl g H, rfl, q⟩)
theorem we_str {i : Str} {j} (q : Q (.d (.str i)) g) : WE X W (.Constant (.str i) j pos) ρ g Q := fun σ H S Q' q' => ts_of pe_str (q' _ H ⟨.d (.str i), g, S.ok, Ext.refl g H, rfl, q⟩)
/-- a constant of the module -/
theorem we_glob {x : Str} {v : V} {u : Value} {sv : SV} (hg : Gl X x) (hm : X.mg x = some u) (r : RelV v u) (rs : ∀ H, GOk W H g → RepS W H g sv v) (q : Q sv g) (hd : (x == ("__debug__" : Str)) = false := by decide) : WE X W (.Name x pos) ρ g Q := fun σ H S Q' q' =>
  ts_of (pe_glob hg hm r hd) (q' v H ⟨sv, g, S.ok, Ext.refl g H, rs H S.ok, q⟩)
theorem we_op {op : Operator} {r : R2} (ho : OpR X (binaryOp op) r) (h : WE X W a ρ g fun x g1 => WE X W b ρ g1 fun y g2 => RW W r x y g2 Q) : WE X W (.BinOp a op b pos) ρ g Q := fun σ H S Q' q' => by
  refine ts_of (pe_op ho pe_s pe_s) ?_
  refine h σ H S _ fun vx H1 ⟨x, g1, k1, e1, r1, h1⟩ => h1 σ H1 (S.ext k1 e1) _ fun vy H2 ⟨y, g2, k2, e2, r2, h2⟩ => h2 H2 vx vy k2 (r1.ext e2) r2 _ fun v H3 z => q' v H3 (z.back (e1.trans e2))
theorem we_un {op : UnaryOp} {r : V → Hp → VK → Prop} (ho : UnR X (unaryOp op) r) (h : WE X W a ρ g fun x g1 => RU W r x g1 Q) : WE X W (.UnaryOp op a pos) ρ g Q := fun σ H S Q' q' => by
  refine ts_of (pe_un ho pe_s) ?_
  exact h σ H S _ fun vx H1 ⟨x, g1, k1, e1, r1, h1⟩ => h1 H1 vx k1 r1 _ fun v H3 z => q' v H3 (z.back e1)
theorem we_cmp {op : CmpOp} {r : R2} (ho : OpR X (compareOp op) r) (hm : behindInMarks op b = false) (h : WE X W a ρ g fun x g1 => WE X W b ρ g1 fun y g2 => RW W r x y g2 Q) : WE X W (.Compare a [op] [b] pos) ρ g Q := fun σ H S Q' q' => by
  refine ts_of (pe_cmpR ho pe_s pe_s hm) ?_
  refine h σ H S _ fun vx H1 ⟨x, g1, k1, e1, r1, h1⟩ => h1 σ H1 (S.ext k1 e1) _ fun vy H2 ⟨y, g2, k2, e2, r2, h2⟩ => h2 H2 vx vy k2 (r1.ext e2) r2 _ fun v H3 z => q' v H3 (z.back (e1.trans e2))
/-- a op b op' c -/
theorem we_chain {op op' : CmpOp} {r r' : R2} (ho : OpR X (compareOp op) r) (ho' : OpR X (compareOp op') r') (h : WE X W a ρ g fun x g1 => WE X W b ρ g1 fun y g2 => RW W r x y g2 fun z g3 => ∃ k, z = .d (.bl k) ∧ (if k = true then WE X W c ρ g3 fun y2 g4 => RW W r' y y2 g4 Q else Q (.d (.bl false)) g3))
    (hm : lastMarks [op, op'] [b, c] = false := by with_unfolding_all rfl) : WE X W (.Compare a [op, op'] [b, c] pos) ρ g Q := fun σ H S Q' q' => by
  refine ts_of (pe_chain ho ho' pe_s pe_s pe_s hm) ?_
  refine h σ H S _ fun vx H1 ⟨x, g1, k1, e1, r1, h1⟩ => h1 σ H1 (S.ext k1 e1) _ fun vy H2 ⟨y, g2, k2, e2, r2, h2⟩ => h2 H2 vx vy k2 (r1.ext e2) r2 _ fun v H3 ⟨z, g3, k3, e3, r3, k, hz, h3⟩ => ?_
  subst hz
  cases (show v = .bl k from r3)
  refine ⟨k, rfl, ?_⟩
  cases k with
  | true =>
    rw [if_pos rfl] at h3 ⊢
    exact h3 σ H3 (S.ext k3 ((e1.trans e2).trans e3)) _ fun v4 H4 ⟨y2, g4, k4, e4, r4, h4⟩ => h4 H4 vy v4 k4 (r2.ext (e3.trans e4)) r4 _ fun v H5 z => q' v H5 (z.back (((e1.trans e2).trans e3).trans e4))
  | false =>
    rw [if_neg (by decide)] at h3 ⊢
    exact q' _ H3 ⟨.d (.bl false), g3, k3, (e1.trans e2).trans e3, rfl, h3⟩
theorem wa_nil {Q : List SV → G → Prop} (q : Q [] g) : WA X W [] ρ g Q := fun σ H S Q' q' => ta_of pa_nil (q' [] H ⟨[], g, S.ok, Ext.refl g H, rfl, q⟩)
theorem wa_cons {Q : List SV → G → Prop} (h : WE X W e ρ g fun x g1 => WA X W es ρ g1 fun xs g2 => Q (x :: xs) g2) (hs : starEach (e :: es) X.env = (false, eval e X.env) :: starEach es X.env := by rfl) : WA X W (e :: es) ρ g Q := fun σ H S Q' q' => by
  refine ta_of (pa_cons pe_s pa_s hs) ?_
  exact h σ H S _ fun vx H1 ⟨x, g1, k1, e1, r1, h1⟩ => h1 σ H1 (S.ext k1 e1) _ fun vs H2 ⟨xs, g2, k2, e2, r2, h2⟩ => q' _ H2 ⟨x :: xs, g2, k2, e1.trans e2, ⟨vx, vs, rfl, r1.ext e2, r2⟩, h2⟩
/-- a display of trees: a new tree -/
theorem we_tup {x1} (h : WA X W es ρ g fun xs g1 => ∃ l : List D, xs = l.map SV.d ∧ l.length ≤ 1000 ∧ Q (.d (.tup l)) g1) : WE X W (.Tuple es x1 pos) ρ g Q := fun σ H S Q' q' => by
  refine ts_of (pe_tup pa_s) ?_
  refine h σ H S _ fun vs H1 ⟨xs, g1, k1, e1, r1, l, hx, hl, h1⟩ => ?_
  subst hx
  have r1 := reps_of r1
  refine ⟨by rw [← r1.length]; exact Nat.le_trans hl (by decide), fun p hp => q' _ _ ⟨.d (.tup l), g1, k1.new hp, e1.trans (Ext.new hp), ⟨p, vs, rfl, .inl ⟨.inl upd_same, k1.free hp⟩, Reps.ext (Ext.new hp) _ _ r1⟩, h1⟩⟩
theorem we_lst (h : WA X W es ρ g fun xs g1 => ∃ l : List D, xs = l.map SV.d ∧ l.length ≤ 1000 ∧ Q (.d (.lst l)) g1) : WE X W (.List es pos) ρ g Q := fun σ H S Q' q' => by
  refine ts_of (pe_lst pa_s) ?_
  refine h σ H S _ fun vs H1 ⟨xs, g1, k1, e1, r1, l, hx, hl, h1⟩ => ?_
  subst hx
  have r1 := reps_of r1
  refine ⟨by rw [← r1.length]; exact Nat.le_trans hl (by decide), fun p hp => q' _ _ ⟨.d (.lst l), g1, k1.new hp, e1.trans (Ext.new hp), ⟨p, vs, rfl, ⟨upd_same, k1.free hp⟩, Reps.ext (Ext.new hp) _ _ r1⟩, h1⟩⟩
/-- a display as a thing that may change -/
theorem we_lstO (h : WA X W es ρ g fun xs g1 => xs.length ≤ 1000 ∧ ∀ p, g1 p = none → Q (.ob p) (gset g1 p (.lst xs))) : WE X W (.List es pos) ρ g Q := fun σ H S Q' q' => by
  refine ts_of (pe_lst pa_s) ?_
  refine h σ H S _ fun vs H1 ⟨xs, g1, k1, e1, r1, hl, h1⟩ => ?_
  refine ⟨by rw [← r1.length]; exact Nat.le_trans hl (by decide), fun p hp => q' _ _ ⟨.ob p, gset g1 p (.lst xs), k1.newOb (m := .lst xs) hp ⟨vs, upd_same, r1.ext (Ext.newOb hp)⟩, e1.trans (Ext.newOb hp), rfl, h1 p (k1.free hp)⟩⟩
end
end DL

namespace DL
open PySem PySem.Spec PyProof.Rows L2

/-! ### tests -/
section
variable {X : Cx} {W : Wd} {ρ : Rho} {g : G} {pos : Pos} {a b c e : Expr} {es : List Expr}
theorem wt_val {Q : Bool → G → Prop} (h : WE X W e ρ g fun r g' => ∃ k, r = .d (.bl k) ∧ Q k g') (he : ∀ whole, isTrue e X.env whole = (do let v ← whole; standAt e.pos; holding [v] (truthy v)) := by intro _; rfl) : WT X W e ρ g Q := fun σ H S Q' q' => by
  refine tt_of (pt_val pe_s he) ?_
  refine h σ H S _ fun v H' ⟨r, g', k, ex, rr, b, hr, q⟩ => ?_
  subst hr
  exact ⟨b, rr, q' b H' ⟨g', k, ex, q⟩⟩
/-- truth of a tree -/
def TruD : D → Bool → Prop
  | .non, k => k = false
  | .bl b, k => k = b
  | .int i, k => k = (i != 0)
  | .str y, k => y.length ≤ sizeLine ∧ k = ((y.length : Int) != 0)
  | .lst l, k => k = !l.isEmpty
  | .tup l, k => k = !l.isEmpty
  | .ins _ _, _ => False
  | .cls _, _ => False
  | .fl l, k => k = !l.isEmpty
theorem Reps.isEmpty {W : Wd} {H : Hp} {g : G} {l : List D} {xs : List V} (h : Reps W H g l xs) : l.isEmpty = xs.isEmpty := by
  have := h.length
  cases l <;> cases xs <;> simp_all
theorem TruD.v {W : Wd} {H : Hp} {g : G} {x : D} {v : V} {k : Bool} (r : Rep W H g x v) (t : TruD x k) : TruV W.K v H k := by
  cases x with
  | non => cases (show v = _ from r); exact t
  | bl b => cases (show v = _ from r); exact t
  | int i => cases (show v = _ from r); exact t
  | str y => cases (show v = _ from r); exact t
  | lst l =>
    obtain ⟨a, xs, rfl, h1, h2⟩ := r
    exact .inl ⟨xs, h1.sq, by rw [← h2.isEmpty]; exact t⟩
  | tup l =>
    obtain ⟨a, xs, rfl, h1, h2⟩ := r
    exact .inr (.inl ⟨xs, h1.sq, by rw [← h2.isEmpty]; exact t⟩)
  | ins c fs => exact False.elim t
  | cls c => exact False.elim t
  | fl l =>
    obtain ⟨a, xs, rfl, h1, h2⟩ := r
    exact .inl ⟨xs, h1.sq, by rw [← h2.isEmpty]; exact t⟩
theorem wt_truth {Q : Bool → G → Prop} (hK : X.K = W.K) (h : WE X W e ρ g fun r g' => ∃ x k, r = .d x ∧ TruD x k ∧ Q k g') (he : ∀ whole, isTrue e X.env whole = (do let v ← whole; standAt e.pos; holding [v] (truthy v)) := by intro _; rfl) : WT X W e ρ g Q := fun σ H S Q' q' => by
  refine tt_of (pt_truth pe_s he) ?_
  refine h σ H S _ fun v H' ⟨r, g', k, ex, rr, x, b, hr, t, q⟩ => ?_
  subst hr
  exact ⟨b, by rw [hK]; exact TruD.v rr t, q' b H' ⟨g', k, ex, q⟩⟩
theorem wt_cmp {op : CmpOp} {r : R2} {Q : Bool → G → Prop} (ho : OpR X (compareOp op) r) (hm : behindInMarks op b = false) (h : WE X W a ρ g fun x g1 => WE X W b ρ g1 fun y g2 => RW W r x y g2 fun z g3 => ∃ k, z = .d (.bl k) ∧ Q k g3) : WT X W (.Compare a [op] [b] pos) ρ g Q := fun σ H S Q' q' => by
  refine tt_of (pt_cmpR ho pe_s pe_s hm) ?_
  refine h σ H S _ fun vx H1 ⟨x, g1, k1, e1, r1, h1⟩ => h1 σ H1 (S.ext k1 e1) _ fun vy H2 ⟨y, g2, k2, e2, r2, h2⟩ => h2 H2 vx vy k2 (r1.ext e2) r2 _ fun v H3 ⟨z, g3, k3, e3, r3, k, hz, q⟩ => ?_
  subst hz
  exact ⟨k, r3, q' k H3 ⟨g3, k3, (e1.trans e2).trans e3, q⟩⟩
theorem wt_chain {op op' : CmpOp} {r r' : R2} {Q : Bool → G → Prop} (ho : OpR X (compareOp op) r) (ho' : OpR X (compareOp op') r') (h : WE X W a ρ g fun x g1 => WE X W b ρ g1 fun y g2 => RW W r x y g2 fun z g3 => ∃ k, z = .d (.bl k) ∧ (if k = true then WE X W c ρ g3 fun y2 g4 => RW W r' y y2 g4 fun z g5 => ∃ k, z = .d (.bl k) ∧ Q k g5 else Q false g3))
    (hm : lastMarks [op, op'] [b, c] = false := by with_unfolding_all rfl) : WT X W (.Compare a [op, op'] [b, c] pos) ρ g Q := fun σ H S Q' q' => by
  refine tt_of (pt_chain ho ho' pe_s pe_s pe_s hm) ?_
  refine h σ H S _ fun vx H1 ⟨x, g1, k1, e1, r1, h1⟩ => h1 σ H1 (S.ext k1 e1) _ fun vy H2 ⟨y, g2, k2, e2, r2, h2⟩ => h2 H2 vx vy k2 (r1.ext e2) r2 _ fun v H3 ⟨z, g3, k3, e3, r3, k, hz, h3⟩ => ?_
  subst hz
  cases (show v = .bl k from r3)
  refine ⟨k, rfl, ?_⟩
  cases k with
  | true =>
    rw [if_pos rfl] at h3 ⊢
    refine h3 σ H3 (S.ext k3 ((e1.trans e2).trans e3)) _ fun v4 H4 ⟨y2, g4, k4, e4, r4, h4⟩ => h4 H4 vy v4 k4 (r2.ext (e3.trans e4)) r4 _ fun v H5 ⟨z, g5, k5, e5, r5, k, hz, q⟩ => ?_
    subst hz
    exact ⟨k, r5, q' k H5 ⟨g5, k5, (((e1.trans e2).trans e3).trans e4).trans e5, q⟩⟩
  | false =>
    rw [if_neg (by decide)] at h3 ⊢
    exact ⟨false, rfl, q' _ H3 ⟨g3, k3, (e1.trans e2).trans e3, h3⟩⟩
theorem wt_not {Q : Bool → G → Prop} (h : WT X W a ρ g fun k g' => Q (!k) g') : WT X W (.UnaryOp .Not a pos) ρ g Q := fun σ H S Q' q' => by
  refine tt_of (pt_not pt_s) ?_
  exact h σ H S _ fun b H' ⟨g', k, ex, q⟩ => q' _ H' ⟨g', k, ex, q⟩
theorem wt_w {Q : Bool → G → Prop} (h : WW X W e ρ g Q) : WT X W e ρ g Q := fun σ H S Q' q' => by
  refine tt_of (PW.pt pw_s) ?_
  exact h σ H S Q' q'
theorem ww_and1 {Q : Bool → G → Prop} (h : WT X W a ρ g Q) : WW X W (.BoolOp .And [a] pos) ρ g Q := fun σ H S Q' q' => tw_of (pw_and1 pt_s) (h σ H S Q' q')
theorem ww_or1 {Q : Bool → G → Prop} (h : WT X W a ρ g Q) : WW X W (.BoolOp .Or [a] pos) ρ g Q := fun σ H S Q' q' => tw_of (pw_or1 pt_s) (h σ H S Q' q')
theorem ww_and {Q : Bool → G → Prop} (h : WT X W a ρ g fun k g' => if k = true then WW X W (.BoolOp .And (b :: es) pos) ρ g' Q else Q false g') : WW X W (.BoolOp .And (a :: b :: es) pos) ρ g Q := fun σ H S Q' q' => by
  refine tw_of (pw_and pt_s pw_s) ?_
  refine h σ H S _ fun k H' ⟨g', kk, ex, q⟩ => ?_
  cases k with
  | true => rw [if_pos rfl] at q ⊢; exact q σ H' (S.ext kk ex) _ fun b H2 z => q' b H2 (z.back ex)
  | false => rw [if_neg (by decide)] at q ⊢; exact q' _ _ ⟨g', kk, ex, q⟩
theorem ww_or {Q : Bool → G → Prop} (h : WT X W a ρ g fun k g' => if k = true then Q true g' else WW X W (.BoolOp .Or (b :: es) pos) ρ g' Q) : WW X W (.BoolOp .Or (a :: b :: es) pos) ρ g Q := fun σ H S Q' q' => by
  refine tw_of (pw_or pt_s pw_s) ?_
  refine h σ H S _ fun k H' ⟨g', kk, ex, q⟩ => ?_
  cases k with
  | true => rw [if_pos rfl] at q ⊢; exact q' _ _ ⟨g', kk, ex, q⟩
  | false => rw [if_neg (by decide)] at q ⊢; exact q σ H' (S.ext kk ex) _ fun b H2 z => q' b H2 (z.back ex)
variable {Q : QE}
theorem we_one {op} (h : WE X W a ρ g Q) : WE X W (.BoolOp op [a] pos) ρ g Q := fun σ H S Q' q' => ts_of (pe_one pe_s) (h σ H S Q' q')
theorem we_and (h : WE X W a ρ g fun x g' => ∃ k, x = .d (.bl k) ∧ if k = true then WE X W (.BoolOp .And (b :: es) pos) ρ g' Q else Q (.d (.bl false)) g') : WE X W (.BoolOp .And (a :: b :: es) pos) ρ g Q := fun σ H S Q' q' => by
  refine ts_of (pe_and pe_s pe_s) ?_
  refine h σ H S _ fun v H' ⟨r, g', kk, ex, rr, k, hr, q⟩ => ?_
  subst hr
  refine ⟨k, rr, ?_⟩
  cases k with
  | true => rw [if_pos rfl] at q ⊢; exact q σ H' (S.ext kk ex) _ fun b H2 z => q' b H2 (z.back ex)
  | false => rw [if_neg (by decide)] at q ⊢; exact q' _ _ ⟨.d (.bl false), g', kk, ex, rfl, q⟩
theorem we_or (h : WE X W a ρ g fun x g' => ∃ k, x = .d (.bl k) ∧ if k = true then Q (.d (.bl true)) g' else WE X W (.BoolOp .Or (b :: es) pos) ρ g' Q) : WE X W (.BoolOp .Or (a :: b :: es) pos) ρ g Q := fun σ H S Q' q' => by
  refine ts_of (pe_or pe_s pe_s) ?_
  refine h σ H S _ fun v H' ⟨r, g', kk, ex, rr, k, hr, q⟩ => ?_
  subst hr
  refine ⟨k, rr, ?_⟩
  cases k with
  | true => rw [if_pos rfl] at q ⊢; exact q' _ _ ⟨.d (.bl true), g', kk, ex, rfl, q⟩
  | false => rw [if_neg (by decide)] at q ⊢; exact q σ H' (S.ext kk ex) _ fun b H2 z => q' b H2 (z.back ex)
theorem we_notv (h : WE X W a ρ g fun x g' => ∃ k, x = .d (.bl k) ∧ Q (.d (.bl (!k))) g') : WE X W (.UnaryOp .Not a pos) ρ g Q := fun σ H S Q' q' => by
  refine ts_of (pe_not pe_s) ?_
  refine h σ H S _ fun v H' ⟨r, g', kk, ex, rr, k, hr, q⟩ => ?_
  subst hr
  exact ⟨k, rr, q' _ _ ⟨.d (.bl (!k)), g', kk, ex, rfl, q⟩⟩
theorem we_ifx (h : WT X W c ρ g fun k g' => if k = true then WE X W a ρ g' Q else WE X W b ρ g' Q) : WE X W (.IfExp c a b pos) ρ g Q := fun σ H S Q' q' => by
  refine ts_of (pe_ifExp pt_s pe_s pe_s) ?_
  refine h σ H S _ fun k H' ⟨g', kk, ex, q⟩ => ?_
  cases k with
  | true => rw [if_pos rfl] at q ⊢; exact q σ H' (S.ext kk ex) _ fun b H2 z => q' b H2 (z.back ex)
  | false => rw [if_neg (by decide)] at q ⊢; exact q σ H' (S.ext kk ex) _ fun b H2 z => q' b H2 (z.back ex)
end

/-! ### defs -/
abbrev SpD := List SV → G → QE → Prop
def liftSp (W : Wd) (n : Nat) (S : SpD) : Sp := fun vs H Q _ => vs.length = n ∧ ∃ svs g Q0, RepSs W H g svs vs ∧ GOk W H g ∧ S svs g Q0 ∧ ∀ v H', PostE W g H Q0 v H' → Q v H'
def startD (N : List Str) (svs : List SV) : Rho := svs.map some ++ List.replicate (N.length - svs.length) none
def retP (Q : QE) : P4 := { nx := fun _ g' => Q (.d .non) g', rt := Q }
theorem sim_start {W : Wd} {N : List Str} {g : G} {H : Hp} {svs : List SV} {vs : List V} (k : GOk W H g) (r : RepSs W H g svs vs) : Sim W (startD N svs) g (L2.start N vs) H := by
  have hl := r.length
  refine ⟨k, ?_, fun i sv h => ?_⟩
  · unfold startD L2.start
    simp [hl]
  · unfold startD at h
    unfold L2.start
    by_cases hi : i < svs.length
    · rw [List.getElem?_append_left (by simpa using hi), List.getElem?_map] at h
      rw [List.getElem?_append_left (by rw [List.length_map, ← hl]; exact hi), List.getElem?_map]
      cases e : svs[i]? with
      | none => rw [e] at h; cases h
      | some s =>
        rw [e] at h; cases h
        obtain ⟨v, h1, h2⟩ := r.get e
        exact ⟨v, by rw [h1]; rfl, h2⟩
    · rw [List.getElem?_append_right (by simpa using hi), List.getElem?_replicate] at h
      split at h <;> cases h
section
variable {P : Program} {w : World} {W : Wd} {mg : Str → Option Value} {base : Heap}
/-- THE RULE for a def -/
theorem fnD {x qual : Str} {st : Stmt} {f : Addr} {fd : FuncData} {N ps : List Str} {k : Nat} {S : SpD} (F : Fun W.K x qual st f fd) (sc : FnScope N ps (defScope st))
    (h : ∀ (cdv : Value) (A : Around) (outer : List Env) (s : Shared) (H : Hp) (E : XK) (svs : List SV) (g : G) (Q : QE), svs.length = ps.length → Room k (A.deeper (envOfC qual (defScope st) s.heap.objs.size f cdv)) → S svs g Q →
      WS (cxOf CX0 P w W.K mg base N qual (defScope st) f cdv A outer s H E).nox W (defBody st) (startD N svs) g (retP Q)) : FnOk P w W.K mg base CX0 (k + 1) f fd ps (liftSp W ps.length S) := by
  refine F.ok sc (fun vs H Q E q => q.1) fun cdv A outer s H vs Q E hr q => ?_
  obtain ⟨hl, svs, g, Q0, r, kk, q, qq⟩ := q
  refine ⟨_, pss_s, ?_⟩
  exact h cdv A outer s H E svs g Q0 (by rw [r.length]; exact hl) hr q (L2.start N vs) H (sim_start kk r) _ ⟨fun σ' H' ⟨ρ', g', s1, e1, q1⟩ => qq _ _ ⟨.d .non, g', s1.ok, e1, rfl, q1⟩, qq, fun σ' H' ⟨_, _, _, _, q1⟩ => q1, fun σ' H' ⟨_, _, _, _, q1⟩ => q1⟩
end
section
variable {X : Cx} {W : Wd} {ρ : Rho} {g : G} {Q : QE} {pos p apos : Pos} {e o : Expr} {es : List Expr} {n k : Nat} {f : Addr} {fd : FuncData} {ps : List Str} {S : SpD} {x m : Str}
/-- default values -/
def DefV (W : Wd) (dsv : List SV) (dvs : List V) : Prop := ∀ H g, GOk W H g → RepSs W H g dsv dvs
theorem defv_nil {W : Wd} : DefV W [] [] := fun _ _ _ => rfl
theorem we_call {dsv : List SV} {dvs : List V} {ds : List Value} (F : FnOk X.prog X.w X.K X.mg X.base CX0 k f fd ps (liftSp W n S)) (hr : Room k X.A) (hg : Gl X x) (hm : X.mg x = some (.ref f)) (hk : PySem.W.keepIn X.K (.ref f) = true) (hb : Binds X.K fd ps ds) (hd : Vals dvs ds) (hds : DefV W dsv dvs)
    (h : WA X W (e :: es) ρ g fun svs g1 => svs.length + dsv.length = n ∧ S (svs ++ dsv) g1 Q) (hdb : (x == ("__debug__" : Str)) = false := by decide)
    (he : starEach (e :: es) X.env = (false, eval e X.env) :: starEach es X.env := by rfl) (hpl : (backTo pos (starEach es X.env)).any (·.1) = false := by rfl) : WE X W (.Call (.Name x p) (e :: es) [] pos) ρ g Q := fun σ H S' Q' q' => by
  refine ts_of (pe_call F hr hg hm hk hb hd pass0 pa_s hdb he hpl) ?_
  exact h σ H S' _ fun vs H1 ⟨svs, g1, k1, e1, r1, hl, q⟩ => ⟨by rw [List.length_append, ← r1.length, ← (hds H1 g1 k1).length]; exact hl, svs ++ dsv, g1, Q, r1.append (hds H1 g1 k1), k1, q, fun v H' z => q' v H' (z.back e1)⟩
theorem we_call0 {dsv : List SV} {dvs : List V} {ds : List Value} (F : FnOk X.prog X.w X.K X.mg X.base CX0 k f fd ps (liftSp W n S)) (hr : Room k X.A) (hg : Gl X x) (hm : X.mg x = some (.ref f)) (hk : PySem.W.keepIn X.K (.ref f) = true) (hb : Binds X.K fd ps ds) (hd : Vals dvs ds) (hds : DefV W dsv dvs)
    (h : dsv.length = n ∧ S dsv g Q) (hdb : (x == ("__debug__" : Str)) = false := by decide) : WE X W (.Call (.Name x p) [] [] pos) ρ g Q := fun σ H S' Q' q' => by
  refine ts_of (pe_call0 F hr hg hm hk hb hd pass0 hdb) ?_
  exact ⟨by rw [List.nil_append, ← (hds H g S'.ok).length]; exact h.1, dsv, g, Q, hds H g S'.ok, S'.ok, h.2, fun v H' z => q' v H' z⟩
/-- o.m(e, ..), o a tree or a thing that may change -/
def InsOf (W : Wd) (g : G) (c : Nat) (m : Str) : SV → Prop
  | .d (.ins c' fs) => c' = c ∧ fs.lookup m = none
  | .ob a => ∃ fs, g a = some (.ins c fs) ∧ fs.lookup m = none
  | _ => False
theorem RepSf.nolook {H : Hp} : ∀ {l : List (Str × SV)} {vs : List (Str × V)} {f : Str}, RepSf W H g l vs → l.lookup f = none → vs.lookup f = none
  | [], _, _, h, _ => by cases (show _ = [] from h); rfl
  | p :: l, _, f, h, e => by
    obtain ⟨x, r, rfl, h1, h2⟩ := h
    rw [List.lookup_cons] at e ⊢
    cases q : f == p.1 with
    | true => rw [q] at e; cases e
    | false => rw [q] at e; exact RepSf.nolook h2 e
theorem RepSf.look {H : Hp} : ∀ {l : List (Str × SV)} {vs : List (Str × V)} {f : Str} {d : SV}, RepSf W H g l vs → l.lookup f = some d → ∃ v, vs.lookup f = some v ∧ RepS W H g d v
  | [], _, _, _, _, e => by simp at e
  | p :: l, _, f, d, h, e => by
    obtain ⟨x, r, rfl, h1, h2⟩ := h
    rw [List.lookup_cons] at e ⊢
    cases q : f == p.1 with
    | true => rw [q] at e; cases e; exact ⟨x, rfl, h1⟩
    | false => rw [q] at e; obtain ⟨v, k1, k2⟩ := RepSf.look h2 e; exact ⟨v, k1, k2⟩
theorem InsOf.at {H : Hp} {c : Nat} {s : SV} {v : V} (i : InsOf W g c m s) (k : GOk W H g) (r : RepS W H g s v) : ∃ a dx fs, v = .ref a ∧ H a = some (.ins (W.cl c) dx fs) ∧ fs.lookup m = none := by
  cases s with
  | ob a =>
    obtain ⟨fs, h1, h2⟩ := i
    obtain ⟨dx, vs, e1, e2⟩ := k a _ h1
    exact ⟨a, dx, vs, r, e1, e2.nolook h2⟩
  | d x =>
    cases x with
    | ins c' fs =>
      obtain ⟨rfl, h2⟩ := i
      obtain ⟨a, dx, vs, rfl, e1, e2, e3⟩ := r
      exact ⟨a, dx, vs, rfl, e1, e3.nolook h2⟩
    | _ => exact False.elim i
theorem we_meth {c : Nat} {dsv : List SV} {dvs : List V} {ds : List Value} {pl : Sem Bool} (c1 : Cls X.K (W.cl c)) (hm : Meth X.K (W.cl c) m f) (F : FnOk X.prog X.w X.K X.mg X.base CX0 k f fd ps (liftSp W n S)) (hr : Room k X.A) (hb : Binds X.K fd ps ds) (hd : Vals dvs ds) (hds : DefV W dsv dvs)
    (h : WE X W o ρ g fun sv g1 => InsOf W g1 c m sv ∧ WA X W (e :: es) ρ g1 fun svs g2 => svs.length + dsv.length + 1 = n ∧ S (sv :: (svs ++ dsv)) g2 Q)
    (hst : starEach (e :: es) X.env = (false, eval e X.env) :: starEach es X.env := by rfl) (hpl : (backTo pos (starEach es X.env)).any (·.1) = false := by rfl)
    (ht : eval (.Call (.Attribute o m apos) (e :: es) [] pos) X.env = (do
      let ov ← eval o X.env
      standAt apos.atName
      let (f, first) ← holding [ov] (getMethod ov m pl)
      callWith pos f first (backTo pos (starEach (e :: es) X.env)) (backToKw pos (keywordEach [] X.env))) := by rfl) : WE X W (.Call (.Attribute o m apos) (e :: es) [] pos) ρ g Q := fun σ H S' Q' q' => by
  refine ts_of (pe_meth pe_s c1 hm F hr hb hd pass0 pa_s hst hpl ht) ?_
  refine h σ H S' _ fun v H1 ⟨sv, g1, k1, e1, r1, i1, h1⟩ => ?_
  obtain ⟨a, dx, fs, rfl, ha, hl⟩ := i1.at k1 r1
  refine ⟨a, dx, fs, rfl, ha, hl, ?_⟩
  exact h1 σ H1 (S'.ext k1 e1) _ fun vs H2 ⟨svs, g2, k2, e2, r2, hl, q⟩ => ⟨by rw [List.length_cons, List.length_append, ← r2.length, ← (hds H2 g2 k2).length]; exact hl, sv :: (svs ++ dsv), g2, Q, ⟨_, _, rfl, r1.ext e2, r2.append (hds H2 g2 k2)⟩, k2, q, fun v H' z => q' v H' (z.back (e1.trans e2))⟩
theorem we_meth0 {c : Nat} {dsv : List SV} {dvs : List V} {ds : List Value} {pl : Sem Bool} (c1 : Cls X.K (W.cl c)) (hm : Meth X.K (W.cl c) m f) (F : FnOk X.prog X.w X.K X.mg X.base CX0 k f fd ps (liftSp W n S)) (hr : Room k X.A) (hb : Binds X.K fd ps ds) (hd : Vals dvs ds) (hds : DefV W dsv dvs)
    (h : WE X W o ρ g fun sv g1 => InsOf W g1 c m sv ∧ dsv.length + 1 = n ∧ S (sv :: dsv) g1 Q)
    (ht : eval (.Call (.Attribute o m apos) [] [] pos) X.env = (do
      let ov ← eval o X.env
      standAt apos.atName
      let (f, first) ← holding [ov] (getMethod ov m pl)
      callWith pos f first (backTo pos (starEach [] X.env)) (backToKw pos (keywordEach [] X.env))) := by rfl) : WE X W (.Call (.Attribute o m apos) [] [] pos) ρ g Q := fun σ H S' Q' q' => by
  refine ts_of (pe_meth0 pe_s c1 hm F hr hb hd pass0 ht) ?_
  refine h σ H S' _ fun v H1 ⟨sv, g1, k1, e1, r1, i1, hn, h1⟩ => ?_
  obtain ⟨a, dx, fs, rfl, ha, hl⟩ := i1.at k1 r1
  refine ⟨a, dx, fs, rfl, ha, hl, ?_⟩
  exact ⟨by rw [List.nil_append, List.length_cons, ← (hds H1 g1 k1).length]; exact hn, sv :: dsv, g1, Q, ⟨_, _, rfl, r1, hds H1 g1 k1⟩, k1, h1, fun v H' z => q' v H' (z.back e1)⟩
/-- C(e, ..): what __init__ makes of a new thing -/
theorem we_make {c : Nat} {dsv : List SV} {dvs : List V} {ds : List Value} (M : Mk X.K (W.cl c) f) (F : FnOk X.prog X.w X.K X.mg X.base CX0 k f fd ps (liftSp W n S)) (hr : Room (k + 1) X.A) (hg : Gl X x) (hm : X.mg x = some (.ref (W.cl c))) (hb : Binds X.K fd ps ds) (hd : Vals dvs ds) (hds : DefV W dsv dvs)
    (h : WA X W (e :: es) ρ g fun svs g1 => svs.length + dsv.length + 1 = n ∧ ∀ a, g1 a = none → S (.ob a :: (svs ++ dsv)) (gset g1 a (.ins c [])) fun r g2 => r = .d .non ∧ Q (.ob a) g2) (hdb : (x == ("__debug__" : Str)) = false := by decide)
    (he : starEach (e :: es) X.env = (false, eval e X.env) :: starEach es X.env := by rfl) (hpl : (backTo pos (starEach es X.env)).any (·.1) = false := by rfl) : WE X W (.Call (.Name x p) (e :: es) [] pos) ρ g Q := fun σ H S' Q' q' => by
  refine ts_of (pe_make M F hr hg hm hb hd pass0 pa_s hdb he hpl) ?_
  refine h σ H S' _ fun vs H1 ⟨svs, g1, k1, e1, r1, hl, h1⟩ a dx na nd ne => ?_
  have nx : upd H1 dx (.own a) a = none := by rw [upd_ne ne.symm]; exact na
  have e2 : Ext g1 H1 g1 (upd H1 dx (.own a)) := Ext.new nd
  have k2 : GOk W (upd H1 dx (.own a)) g1 := k1.new nd
  have e3 : Ext g1 (upd H1 dx (.own a)) (gset g1 a (.ins c [])) (upd (upd H1 dx (.own a)) a (.ins (W.cl c) dx [])) := Ext.newOb nx
  have k3 : GOk W (upd (upd H1 dx (.own a)) a (.ins (W.cl c) dx [])) (gset g1 a (.ins c [])) := k2.newOb (m := .ins c []) nx ⟨dx, [], upd_same, rfl⟩
  have r3 : RepSs W (upd (upd H1 dx (.own a)) a (.ins (W.cl c) dx [])) (gset g1 a (.ins c [])) (svs ++ dsv) (vs ++ dvs) := (r1.ext (e2.trans e3)).append (hds _ _ k3)
  refine ⟨by rw [List.length_cons, ← r3.length, List.length_append]; exact hl, .ob a :: (svs ++ dsv), _, _, ⟨.ref a, _, rfl, rfl, r3⟩, k3, h1 a (k1.free na), fun v H' ⟨r, g', k4, e4, r4, hr, q⟩ => ?_⟩
  subst hr
  exact ⟨r4, q' _ _ ⟨.ob a, g', k4, ((e1.trans e2).trans e3).trans e4, rfl, q⟩⟩
/-- a thing that may change is taken for a tree from here on -/
theorem we_freeze (h : WE X W e ρ g fun r g1 => ∃ a, r = .ob a ∧ ((∃ l : List D, g1 a = some (.lst (l.map SV.d)) ∧ Q (.d (.lst l)) (gdel g1 a)) ∨ ∃ c, ∃ fs : List (Str × D), g1 a = some (.ins c (fs.map fun p => (p.1, SV.d p.2))) ∧ Q (.d (.ins c fs)) (gdel g1 a))) : WE X W e ρ g Q := fun σ H S Q' q' => by
  refine h σ H S Q' fun v H1 ⟨r, g1, k1, e1, r1, a, hr, h1⟩ => ?_
  subst hr
  cases (show v = .ref a from r1)
  rcases h1 with ⟨l, ha, q⟩ | ⟨c, fs, ha, q⟩
  · obtain ⟨xs, hx, rx⟩ := k1 a _ ha
    exact q' _ _ ⟨.d (.lst l), gdel g1 a, k1.freeze, e1.trans Ext.freeze, ⟨a, xs, rfl, ⟨hx, gdel_same⟩, reps_of (rx.ext Ext.freeze)⟩, q⟩
  · obtain ⟨dx, vs, hx, rx⟩ := k1 a _ ha
    refine q' _ _ ⟨.d (.ins c fs), gdel g1 a, k1.freeze, e1.trans Ext.freeze, ⟨a, dx, vs, rfl, hx, gdel_same, ?_⟩, q⟩
    have conv : ∀ (fs : List (Str × D)) (vs : List (Str × V)), RepSf W H1 (gdel g1 a) (fs.map fun p => (p.1, SV.d p.2)) vs → Repf W H1 (gdel g1 a) fs vs := by
      intro fs
      induction fs with
      | nil => intro vs h; exact h
      | cons p r ih =>
        intro vs h
        obtain ⟨x, r', rfl, h1, h2⟩ := h
        exact ⟨x, r', rfl, h1, ih _ h2⟩
    exact conv fs vs (rx.ext Ext.freeze)
end
end DL

namespace DL
open PySem PySem.Spec PyProof.Rows L2

/-! ### attributes -/
section
variable {X : Cx} {W : Wd} {ρ : Rho} {g : G} {pos pos' p apos : Pos} {a b c e o value : Expr} {es : List Expr} {f : Str} {Q : QE}
def FldOf (g : G) (c : Nat) (f : Str) (sv r : SV) : Prop := match sv with
  | .d (.ins c' fs) => c' = c ∧ ∃ x, fs.lookup f = some x ∧ r = .d x
  | .ob a => ∃ fs, g a = some (.ins c fs) ∧ fs.lookup f = some r
  | _ => False
theorem we_fld {c : Nat} (hK : X.K = W.K) (c1 : Cls W.K (W.cl c)) (n : NoAttr W.K (W.cl c) f) (h : WE X W e ρ g fun sv g1 => ∃ r, FldOf g1 c f sv r ∧ Q r g1) (hb : attributeBase e f X.env (eval e X.env) = eval e X.env := by rfl) : WE X W (.Attribute e f pos) ρ g Q := fun σ H S Q' q' => by
  refine ts_of (pe_fld pe_s hb) ?_
  refine h σ H S _ fun v H1 ⟨sv, g1, k1, e1, r1, r, hf, q⟩ => ?_
  rw [hK]
  cases sv with
  | ob a =>
    obtain ⟨fs, h1, h2⟩ := hf
    obtain ⟨dx, vs, hx, rx⟩ := k1 a _ h1
    obtain ⟨z, hz, rz⟩ := RepSf.look rx h2
    exact ⟨a, W.cl c, dx, vs, z, r1, hx, c1, n, hz, q' _ _ ⟨r, g1, k1, e1, rz, q⟩⟩
  | d x =>
    cases x with
    | ins c' fs =>
      obtain ⟨rfl, y, h2, rfl⟩ := hf
      obtain ⟨a, dx, vs, rfl, hx, hg, rx⟩ := r1
      obtain ⟨z, hz, rz⟩ := rx.look h2
      exact ⟨a, _, dx, vs, z, rfl, hx, c1, n, hz, q' _ _ ⟨.d y, g1, k1, e1, rz, q⟩⟩
    | _ => exact False.elim hf
def putS (f : Str) (v : SV) : List (Str × SV) → List (Str × SV)
  | [] => [(f, v)]
  | p :: r => if p.1 = f then (p.1, v) :: r else p :: putS f v r
theorem RepSf.put {H : Hp} {s : SV} {v : V} (r : RepS W H g s v) : ∀ {fs : List (Str × SV)} {vs : List (Str × V)}, RepSf W H g fs vs → RepSf W H g (putS f s fs) (putF f v vs)
  | [], _, h => by cases (show _ = [] from h); exact ⟨v, [], rfl, r, rfl⟩
  | p :: l, _, h => by
    obtain ⟨x, q, rfl, h1, h2⟩ := h
    unfold putS putF
    by_cases z : p.1 = f
    · rw [if_pos z, if_pos z]; exact ⟨v, q, rfl, r, h2⟩
    · rw [if_neg z, if_neg z]; exact ⟨x, _, rfl, h1, RepSf.put r h2⟩
theorem RepSf.length {H : Hp} : ∀ {l : List (Str × SV)} {xs : List (Str × V)}, RepSf W H g l xs → l.length = xs.length
  | [], _, h => by cases (show _ = [] from h); rfl
  | d :: l, _, h => by
    obtain ⟨x, r, rfl, h1, h2⟩ := h
    exact congrArg (· + 1) (RepSf.length h2)

/-! ### statements -/
variable {P : P4} {st : Stmt} {sts : List Stmt} {A B : List Stmt}
theorem ws_nil (q : P.nx ρ g) : WS X W [] ρ g P := fun σ H S D k => tss_of pss_nil (k.nx σ H ⟨ρ, g, S, Ext.refl g H, q⟩)
theorem ws_cons (h : W1 X W st ρ g { P with nx := fun ρ' g' => WS X W sts ρ' g' P }) : WS X W (st :: sts) ρ g P := fun σ H S D k => by
  refine tss_of (pss_cons ps_s pss_s) ?_
  exact h σ H S _ ⟨fun σ' H' ⟨ρ', g', S', e', q⟩ => q σ' H' S' D (k.back e'), k.rt, k.bk, k.ct⟩
theorem ws_one (h : W1 X W st ρ g P) : WS X W [st] ρ g P := fun σ H S D k => tss_of (pss_one ps_s) (h σ H S D k)
theorem w1_pass (q : P.nx ρ g) : W1 X W (.Pass pos) ρ g P := fun σ H S D k => t1_of ps_pass (k.nx σ H ⟨ρ, g, S, Ext.refl g H, q⟩)
theorem w1_break (q : P.bk ρ g) : W1 X W (.Break pos) ρ g P := fun σ H S D k => t1_of ps_break (k.bk σ H ⟨ρ, g, S, Ext.refl g H, q⟩)
theorem w1_cont (q : P.ct ρ g) : W1 X W (.Continue pos) ρ g P := fun σ H S D k => t1_of ps_continue (k.ct σ H ⟨ρ, g, S, Ext.refl g H, q⟩)
theorem w1_ret (h : WE X W e ρ g P.rt) : W1 X W (.Return (some e) pos) ρ g P := fun σ H S D k => t1_of (ps_ret pe_s) (h σ H S _ k.rt)
theorem w1_retN (q : P.rt (.d .non) g) : W1 X W (.Return none pos) ρ g P := fun σ H S D k => t1_of ps_retN (k.rt _ _ ⟨.d .non, g, S.ok, Ext.refl g H, rfl, q⟩)
theorem w1_expr (h : WE X W e ρ g fun _ g' => P.nx ρ g') (hs : swapsWith e none pos.line X.env = pure false := by rfl) : W1 X W (.Expr e pos) ρ g P := fun σ H S D k => by
  refine t1_of (ps_expr pe_s hs) ?_
  exact h σ H S _ fun v H' ⟨r, g', k', e', _, q⟩ => k.nx _ _ ⟨ρ, g', S.ext k' e', e', q⟩
theorem w1_if (h : WT X W c ρ g fun b g' => if b = true then WS X W A ρ g' P else WS X W B ρ g' P) : W1 X W (.If c A B pos) ρ g P := fun σ H S D k => by
  refine t1_of (ps_if pt_s pss_s pss_s) ?_
  refine h σ H S _ fun b H' ⟨g', k', e', q⟩ => ?_
  cases b with
  | true => rw [if_pos rfl] at q ⊢; exact q σ H' (S.ext k' e') D (k.back e')
  | false => rw [if_neg (by decide)] at q ⊢; exact q σ H' (S.ext k' e') D (k.back e')
theorem w1_set (i : Nat) {x : Str} {pos' : Pos} (hN : X.N.Nodup) (h : WE X W e ρ g fun sv g' => P.nx (ρ.set i (some sv)) g') (hi : X.N[i]? = some x := by rfl) (hx : Loc X.env.scope x := by first | exact Or.inl rfl | exact Or.inr rfl) (hs : swapsWith e (some (.Name x pos')) pos.line X.env = pure false := by rfl)
    (hf : X.fn x = true ∨ X.env.scope.names.lookup x = some .local := by first | exact .inl rfl | exact .inr rfl) : W1 X W (.Assign [.Name x pos'] e pos) ρ g P := fun σ H S D k => by
  refine t1_of (ps_set (i := i) hN hi hx pe_s hs hf) ?_
  exact h σ H S _ fun v H' ⟨r, g', k', e', rr, q⟩ => k.nx _ _ ⟨_, g', (S.ext k' e').set i rr, e', q⟩
/-- targets -/
def WG (W : Wd) (t : TG) (sv : SV) (ρ : Rho) (g : G) (N : Rho → G → Prop) : Prop := ∀ σ H v, Sim W ρ g σ H → RepS W H g sv v → ∀ N' : L2.St → Hp → Prop, (∀ σ' H', PostS W g H N σ' H' → N' σ' H') → t v σ H N'
def WGs (W : Wd) (t : TGs) (svs : List SV) (ρ : Rho) (g : G) (N : Rho → G → Prop) : Prop := ∀ σ H vs, Sim W ρ g σ H → RepSs W H g svs vs → ∀ N' : L2.St → Hp → Prop, (∀ σ' H', PostS W g H N σ' H' → N' σ' H') → t vs σ H N'
theorem wg_name {i : Nat} {sv : SV} {N : Rho → G → Prop} (q : N (ρ.set i (some sv)) g) : WG W (gName i) sv ρ g N := fun σ H v S r N' k => k _ _ ⟨_, g, S.set i r, Ext.refl g H, q⟩
theorem wgs_nil {N : Rho → G → Prop} (q : N ρ g) : WGs W gNil [] ρ g N := fun σ H vs S r N' k => by
  cases (show vs = [] from r)
  exact ⟨rfl, k _ _ ⟨_, g, S, Ext.refl g H, q⟩⟩
theorem wgs_cons {t : TG} {u : TGs} {sv : SV} {svs : List SV} {N : Rho → G → Prop} (h : WG W t sv ρ g fun ρ1 g1 => WGs W u svs ρ1 g1 N) : WGs W (gCons t u) (sv :: svs) ρ g N := fun σ H vs S r N' k => by
  obtain ⟨x, r', rfl, r1, r2⟩ := r
  exact ⟨x, r', rfl, h σ H x S r1 _ fun σ1 H1 ⟨ρ1, g1, S1, e1, q⟩ => q σ1 H1 r' S1 (r2.ext e1) _ fun σ2 H2 z => k _ _ (z.back e1)⟩
theorem wg_tup {n : Nat} {t : TGs} {l : List D} {N : Rho → G → Prop} (hn : l.length = n) (h : WGs W t (l.map SV.d) ρ g N) : WG W (gTup W.K n t) (.d (.tup l)) ρ g N := fun σ H v S r N' k => by
  obtain ⟨a, xs, rfl, h1, h2⟩ := r
  exact ⟨a, xs, rfl, h1.sq, by rw [← h2.length]; exact hn, h σ H xs S (reps_to h2) N' k⟩
theorem w1_asg {tg : Expr} {t : TG} (hg : PG X tg t) (h : WE X W e ρ g fun sv g' => WG W t sv ρ g' P.nx) (hs : swapsWithSole [tg] e pos.line X.env = pure false := by rfl) (hw : swappedStores [tg] e X.env = pure none := by rfl) (h1 : (assignEach [tg] X.env).map (·.2) = [assign tg X.env] := by rfl) : W1 X W (.Assign [tg] e pos) ρ g P := fun σ H S D k => by
  refine t1_of (ps_asg pe_s hg hs hw h1) ?_
  exact h σ H S _ fun v H' ⟨r, g', k', e', rr, q⟩ => q σ H' v (S.ext k' e') rr _ fun σ2 H2 z => k.nx _ _ (z.back e')
theorem w1_par (i j : Nat) {x y : Str} {a b : Expr} {px py pt : Pos} {kt k2 pt2} (hc : X.calm = true) (hN : X.N.Nodup) (h : WA X W [a, b] ρ g fun svs g' => ∃ s1 s2, svs = [s1, s2] ∧ P.nx ((ρ.set i (some s1)).set j (some s2)) g')
    (hi : X.N[i]? = some x := by rfl) (hj : X.N[j]? = some y := by rfl) (hij : i ≠ j := by decide) (hx : X.env.scope.names.lookup x = some .local := by rfl) (hy : X.env.scope.names.lookup y = some .local := by rfl)
    (hw : swappedStores [.Tuple [.Name x px, .Name y py] kt pt] (.Tuple [a, b] k2 pt2) X.env = pure (some [x, y]) := by rfl) : W1 X W (.Assign [.Tuple [.Name x px, .Name y py] kt pt] (.Tuple [a, b] k2 pt2) pos) ρ g P := fun σ H S D k => by
  refine t1_of (ps_par hc hN hi hj hij hx hy pa_s hw) ?_
  refine h σ H S _ fun vs H' ⟨svs, g', k', e', rr, s1, s2, hh, q⟩ => ?_
  subst hh
  obtain ⟨v1, r1, rfl, a1, v2, r2, rfl, a2, hz⟩ := rr
  cases (show r2 = [] from hz)
  exact ⟨v1, v2, rfl, k.nx _ _ ⟨_, g', ((S.ext k' e').set i a1).set j a2, e', q⟩⟩
/-- o.f = value, o a thing that may change -/
theorem w1_fld {c : Nat} (hK : X.K = W.K) (c1 : Cls W.K (W.cl c)) (n : NoAttr W.K (W.cl c) f) (h : WE X W value ρ g fun sv g1 => WE X W o ρ g1 fun ov g2 => ∃ a fs, ov = .ob a ∧ g2 a = some (.ins c fs) ∧ fs.length < 1000 ∧ P.nx ρ (gset g2 a (.ins c (putS f sv fs))))
    (hs : swapsWith value (some (.Attribute o f pos')) pos.line X.env = pure false := by rfl) : W1 X W (.Assign [.Attribute o f pos'] value pos) ρ g P := fun σ H S D k => by
  refine t1_of (ps_fld pe_s pe_s hs) ?_
  refine h σ H S _ fun v H1 ⟨sv, g1, k1, e1, r1, h1⟩ => h1 σ H1 (S.ext k1 e1) _ fun ov H2 ⟨os, g2, k2, e2, r2, a, fs, ho, ha, hl, q⟩ => ?_
  subst ho
  obtain ⟨dx, vs, hx, rx⟩ := k2 a _ ha
  rw [hK]
  have e3 : Ext g2 H2 (gset g2 a (.ins c (putS f sv fs))) (upd H2 a (.ins (W.cl c) dx (putF f v vs))) := Ext.mut ha
  have k3 : GOk W (upd H2 a (.ins (W.cl c) dx (putF f v vs))) (gset g2 a (.ins c (putS f sv fs))) := k2.mut ha ⟨dx, _, upd_same, ((RepSf.put (r1.ext e2) rx).ext e3)⟩
  exact ⟨a, _, dx, vs, r2, hx, c1, n, by rw [← rx.length]; exact hl, k.nx _ _ ⟨ρ, _, S.ext k3 ((e1.trans e2).trans e3), (e1.trans e2).trans e3, q⟩⟩
/-- o[i] = value, o a list that may change -/
theorem w1_sub {i : Expr} {value : Expr} {spos : Pos} (h : WE X W value ρ g fun sv g1 => WE X W o ρ g1 fun ov g2 => WE X W i ρ g2 fun iv g3 => ∃ a l z j, ov = .ob a ∧ iv = .d (.int z) ∧ g3 a = some (.lst l) ∧ ixN l.length z = some j ∧ P.nx ρ (gset g3 a (.lst (l.set j sv))))
    (hs : swapsWithSole [.Subscript o i spos] value pos.line X.env = pure false := by rfl) (hw : swappedStores [.Subscript o i spos] value X.env = pure none := by rfl) (h1 : (assignEach [.Subscript o i spos] X.env).map (·.2) = [assign (.Subscript o i spos) X.env] := by rfl)
    (ha : ∀ v, assign (.Subscript o i spos) X.env v = (do
      let ov ← holding [v] (eval o X.env)
      let iv ← holding [v, ov] (eval i X.env)
      standAt spos
      holding [v, ov, iv] (setItem ov iv v)
      release [v, ov, iv] []) := by intro _; rfl) : W1 X W (.Assign [.Subscript o i spos] value pos) ρ g P := fun σ H S D k => by
  refine t1_of (ps_asg pe_s (pg_sub pe_s pe_s set_list ha) hs hw h1) ?_
  refine h σ H S _ fun v H1 ⟨sv, g1, k1, e1, r1, h1⟩ => h1 σ H1 (S.ext k1 e1) _ fun ov H2 ⟨os, g2, k2, e2, r2, h2⟩ => h2 σ H2 (S.ext k2 (e1.trans e2)) _ fun iv H3 ⟨is, g3, k3, e3, r3, a, l, z, j, ho, hi, ha, hj, q⟩ => ?_
  subst ho hi
  obtain ⟨xs, hx, rx⟩ := k3 a _ ha
  have e4 : Ext g3 H3 (gset g3 a (.lst (l.set j sv))) (upd H3 a (.lst (xs.set j v))) := Ext.mut ha
  have k4 : GOk W (upd H3 a (.lst (xs.set j v))) (gset g3 a (.lst (l.set j sv))) := k3.mut ha ⟨_, upd_same, (rx.set j ((r1.ext e2).ext e3)).ext e4⟩
  exact ⟨a, xs, z, j, r2, r3, hx, by rw [← rx.length]; exact hj, k.nx _ _ ⟨ρ, _, S.ext k4 (((e1.trans e2).trans e3).trans e4), ((e1.trans e2).trans e3).trans e4, q⟩⟩

/-! ### for -/
variable {tg iter : Expr} {body : List Stmt} {t : TG}
theorem w1_forL (hp : PassesOwn (model X.prog X.w) X.A X.env X.xe) (hc : X.calm = true) (hK : X.K = W.K) (hg : PG X tg t) (I : List D → Nat → Rho → G → Prop)
    (h : WE X W iter ρ g fun sv g1 => ∃ l, sv = .d (.lst l) ∧ I l 0 ρ g1 ∧ (∀ i x ρ' g', l[i]? = some x → I l i ρ' g' → WG W t (.d x) ρ' g' fun ρ2 g2 => WS X W body ρ2 g2 { nx := I l (i + 1), rt := P.rt, bk := P.nx, ct := I l (i + 1) }) ∧ (∀ ρ' g', I l l.length ρ' g' → P.nx ρ' g'))
    (hs : ∀ x, foldedSetIterable iter X.env x = pure x := by intro _; rfl) : W1 X W (.For tg iter body [] pos) ρ g P := fun σ H S D k => by
  refine t1_of (ps_for hp hc (pi_list pe_s) hg pss_s hs) ?_
  refine h σ H S _ fun v H1 ⟨sv, g1, k1, e1, r1, l, hl, i0, turn, done⟩ => ?_
  subst hl
  obtain ⟨a, xs, rfl, h1, h2⟩ := r1
  rw [hK]
  refine ⟨a, rfl, ⟨xs, h1.sq⟩, for_list (xs := xs) (fun i σ' H' => PostS W g1 H1 (I l i) σ' H') ⟨ρ, g1, S.ext k1 e1, Ext.refl _ _, i0⟩ (fun i σ' H' _ ⟨ρ', g', S', e', _⟩ => (h1.ext e').sq) (fun i x σ' H' hx ⟨ρ', g', S', e', ii⟩ => ?_) fun σ' H' ⟨ρ', g', S', e', ii⟩ => ?_⟩
  · obtain ⟨d, hd, rd⟩ := h2.got hx
    exact turn i d ρ' g' hd ii σ' H' x S' (Rep.ext e' d x rd) _ fun σ2 H2 ⟨ρ2, g2, S2, e2, q⟩ => q σ2 H2 S2 _ ⟨fun σ3 H3 z => z.back (e'.trans e2), fun v3 H3 z => k.rt v3 H3 (z.back ((e1.trans e').trans e2)), fun σ3 H3 z => k.nx _ _ (z.back ((e1.trans e').trans e2)), fun σ3 H3 z => z.back (e'.trans e2)⟩
  · exact k.nx _ _ ⟨ρ', g', S', e1.trans e', done ρ' g' (by rw [h2.length]; exact ii)⟩
theorem w1_forT (hp : PassesOwn (model X.prog X.w) X.A X.env X.xe) (hc : X.calm = true) (hK : X.K = W.K) (hg : PG X tg t) (I : List D → Nat → Rho → G → Prop)
    (h : WE X W iter ρ g fun sv g1 => ∃ l, sv = .d (.tup l) ∧ I l 0 ρ g1 ∧ (∀ i x ρ' g', l[i]? = some x → I l i ρ' g' → WG W t (.d x) ρ' g' fun ρ2 g2 => WS X W body ρ2 g2 { nx := I l (i + 1), rt := P.rt, bk := P.nx, ct := I l (i + 1) }) ∧ (∀ ρ' g', I l l.length ρ' g' → P.nx ρ' g'))
    (hs : ∀ x, foldedSetIterable iter X.env x = pure x := by intro _; rfl) : W1 X W (.For tg iter body [] pos) ρ g P := fun σ H S D k => by
  refine t1_of (ps_for hp hc (pi_tup pe_s) hg pss_s hs) ?_
  refine h σ H S _ fun v H1 ⟨sv, g1, k1, e1, r1, l, hl, i0, turn, done⟩ => ?_
  subst hl
  obtain ⟨a, xs, rfl, h1, h2⟩ := r1
  rw [hK]
  refine ⟨a, rfl, ⟨xs, h1.sq⟩, for_tup (xs := xs) (fun i σ' H' => PostS W g1 H1 (I l i) σ' H') ⟨ρ, g1, S.ext k1 e1, Ext.refl _ _, i0⟩ (fun i σ' H' _ ⟨ρ', g', S', e', _⟩ => (h1.ext e').sq) (fun i x σ' H' hx ⟨ρ', g', S', e', ii⟩ => ?_) fun σ' H' ⟨ρ', g', S', e', ii⟩ => ?_⟩
  · obtain ⟨d, hd, rd⟩ := h2.got hx
    exact turn i d ρ' g' hd ii σ' H' x S' (Rep.ext e' d x rd) _ fun σ2 H2 ⟨ρ2, g2, S2, e2, q⟩ => q σ2 H2 S2 _ ⟨fun σ3 H3 z => z.back (e'.trans e2), fun v3 H3 z => k.rt v3 H3 (z.back ((e1.trans e').trans e2)), fun σ3 H3 z => k.nx _ _ (z.back ((e1.trans e').trans e2)), fun σ3 H3 z => z.back (e'.trans e2)⟩
  · exact k.nx _ _ ⟨ρ', g', S', e1.trans e', done ρ' g' (by rw [h2.length]; exact ii)⟩
/-- for x in range(n) -/
theorem w1_forR {ar : Expr} {rp rpos : Pos} (hp : PassesOwn (model X.prog X.w) X.A X.env X.xe) (hc : X.calm = true) (hgl : Gl X "range") (hm : X.mg "range" = none) (hg : PG X tg t) (I : Int → Nat → Rho → G → Prop)
    (h : WE X W ar ρ g fun sv g1 => ∃ n : Int, sv = .d (.int n) ∧ -1000000 ≤ n ∧ n ≤ 1000000 ∧ I n 0 ρ g1 ∧ (∀ (i : Nat) ρ' g', (i : Int) < n → I n i ρ' g' → WG W t (.d (.int i)) ρ' g' fun ρ2 g2 => WS X W body ρ2 g2 { nx := I n (i + 1), rt := P.rt, bk := P.nx, ct := I n (i + 1) }) ∧ (∀ ρ' g', I n n.toNat ρ' g' → P.nx ρ' g'))
    (hst : starEach [ar] X.env = [(false, eval ar X.env)] := by rfl) (hst2 : starEach [ar] X.env = (false, eval ar X.env) :: starEach [] X.env := by rfl) (hs : ∀ x, foldedSetIterable (.Call (.Name "range" rp) [ar] [] rpos) X.env x = pure x := by intro _; rfl) : W1 X W (.For tg (.Call (.Name "range" rp) [ar] [] rpos) body [] pos) ρ g P := fun σ H S D k => by
  refine t1_of (ps_for hp hc (pi_range1 hgl hm (pa_cons pe_s pa_nil hst2) hst) hg pss_s hs) ?_
  refine h σ H S _ fun v H1 ⟨sv, g1, k1, e1, r1, n, hl, hn1, hn2, i0, turn, done⟩ => ?_
  subst hl
  cases (show v = .int n from r1)
  refine ⟨n, rfl, by omega, by omega, for_range (lo := 0) (n := n.toNat) (fun i σ' H' => PostS W g1 H1 (I n i) σ' H') ⟨ρ, g1, S.ext k1 e1, Ext.refl _ _, i0⟩ (fun i σ' H' hx ⟨ρ', g', S', e', ii⟩ => ?_) fun σ' H' ⟨ρ', g', S', e', ii⟩ => ?_⟩
  · exact turn i ρ' g' (by omega) ii σ' H' _ S' (by show V.int (0 + (i : Int)) = V.int i; rw [Int.zero_add]) _ fun σ2 H2 ⟨ρ2, g2, S2, e2, q⟩ => q σ2 H2 S2 _ ⟨fun σ3 H3 z => z.back (e'.trans e2), fun v3 H3 z => k.rt v3 H3 (z.back ((e1.trans e').trans e2)), fun σ3 H3 z => k.nx _ _ (z.back ((e1.trans e').trans e2)), fun σ3 H3 z => z.back (e'.trans e2)⟩
  · exact k.nx _ _ ⟨ρ', g', S', e1.trans e', done ρ' g' ii⟩
/-- a while, by an invariant over a number that falls -/
theorem w1_while {c : Expr} (hp : PassesOwn (model X.prog X.w) X.A X.env X.xe) (I : Nat → Rho → G → Prop) (m0 : Nat) (h0 : I m0 ρ g)
    (h : ∀ m ρ' g', I m ρ' g' → WT X W c ρ' g' fun b g1 => if b = true then WS X W body ρ' g1 { nx := fun ρ2 g2 => ∃ m', m' < m ∧ I m' ρ2 g2, rt := P.rt, bk := P.nx, ct := fun ρ2 g2 => ∃ m', m' < m ∧ I m' ρ2 g2 } else P.nx ρ' g1) : W1 X W (.While c body [] pos) ρ g P := fun σ H S D k => by
  refine t1_of (ps_while hp pt_s pss_s) ?_
  refine ⟨fun m σ' H' => PostS W g H (I m) σ' H', ⟨m0, ρ, g, S, Ext.refl g H, h0⟩, fun m σ' H' ⟨ρ', g', S', e', ii⟩ => ?_⟩
  refine h m ρ' g' ii σ' H' S' _ fun b H1 ⟨g1, k1, e1, q⟩ => ?_
  cases b with
  | true =>
    rw [if_pos rfl] at q ⊢
    refine ⟨fun σ2 H2 => ∃ m', m' < m ∧ PostS W g H (I m') σ2 H2, fun σ2 H2 z => z, ?_⟩
    exact q σ' H1 (S'.ext k1 e1) _ ⟨fun σ3 H3 ⟨ρ3, g3, S3, e3, m', hm, i3⟩ => ⟨m', hm, ρ3, g3, S3, (e'.trans e1).trans e3, i3⟩, fun v3 H3 z => k.rt v3 H3 (z.back (e'.trans e1)), fun σ3 H3 z => k.nx _ _ (z.back (e'.trans e1)), fun σ3 H3 ⟨ρ3, g3, S3, e3, m', hm, i3⟩ => ⟨m', hm, ρ3, g3, S3, (e'.trans e1).trans e3, i3⟩⟩
  | false =>
    rw [if_neg (by decide)] at q ⊢
    exact k.nx _ _ ⟨ρ', g1, S'.ext k1 e1, e'.trans e1, q⟩
end
end DL

namespace DL
open PySem PySem.Spec PyProof.Rows L2

/-! ### operations upon values -/
section
variable {W : Wd} {g : G} {Q : QE}
theorem post_same {H : Hp} {r : SV} {v : V} (k : GOk W H g) (h : RepS W H g r v) (q : Q r g) : PostE W g H Q v H := ⟨r, g, k, Ext.refl g H, h, q⟩
theorem post_tup {H : Hp} {l : List D} {xs : List V} {p : Addr} (k : GOk W H g) (hp : H p = none) (h : Reps W H g l xs) (q : Q (.d (.tup l)) g) : PostE W g H Q (.ref p) (upd H p (.tup xs)) :=
  ⟨.d (.tup l), g, k.new hp, Ext.new hp, ⟨p, xs, rfl, .inl ⟨.inl upd_same, k.free hp⟩, Reps.ext (Ext.new hp) _ _ h⟩, q⟩
theorem post_lst {H : Hp} {l : List D} {xs : List V} {p : Addr} (k : GOk W H g) (hp : H p = none) (h : Reps W H g l xs) (q : Q (.d (.lst l)) g) : PostE W g H Q (.ref p) (upd H p (.lst xs)) :=
  ⟨.d (.lst l), g, k.new hp, Ext.new hp, ⟨p, xs, rfl, ⟨upd_same, k.free hp⟩, Reps.ext (Ext.new hp) _ _ h⟩, q⟩
theorem post_ob {H : Hp} {l : List SV} {xs : List V} {p : Addr} (k : GOk W H g) (hp : H p = none) (h : RepSs W H g l xs) (q : Q (.ob p) (gset g p (.lst l))) : PostE W g H Q (.ref p) (upd H p (.lst xs)) :=
  ⟨.ob p, gset g p (.lst l), k.newOb (m := .lst l) hp ⟨xs, upd_same, h.ext (Ext.newOb hp)⟩, Ext.newOb hp, rfl, q⟩
theorem post_mut {H : Hp} {l l' : List SV} {xs' : List V} {a : Addr} {r : SV} {v : V} (k : GOk W H g) (ha : g a = some (.lst l)) (h : RepSs W H g l' xs') (hr : RepS W H g r v) (q : Q r (gset g a (.lst l'))) : PostE W g H Q v (upd H a (.lst xs')) :=
  ⟨r, gset g a (.lst l'), k.mut (m' := .lst l') ha ⟨xs', upd_same, h.ext (Ext.mut ha)⟩, Ext.mut ha, hr.ext (Ext.mut ha), q⟩
theorem rw_i {i j : Int} {f : Int → Int → V} {z : SV} (hz : ∀ H, RepS W H g z (f i j)) (q : Q z g) : RW W (rI0 f) (.d (.int i)) (.d (.int j)) g Q := fun H vx vy k rx ry Q' q' => ⟨i, j, rx, ry, q' _ _ (post_same k (hz H) q)⟩
theorem rw_ii {i j : Int} {f : Int → Int → Int} (q : Q (.d (.int (f i j))) g) : RW W (rI0 fun i j => .int (f i j)) (.d (.int i)) (.d (.int j)) g Q := rw_i (z := .d (.int (f i j))) (fun _ => rfl) q
theorem rw_ib {i j : Int} {f : Int → Int → Bool} (q : Q (.d (.bl (f i j))) g) : RW W (rI0 fun i j => .bl (f i j)) (.d (.int i)) (.d (.int j)) g Q := rw_i (z := .d (.bl (f i j))) (fun _ => rfl) q
theorem rw_ic {i j : Int} {C : Int → Int → Prop} {f : Int → Int → Int} (c : C i j) (q : Q (.d (.int (f i j))) g) : RW W (rI C fun i j => .int (f i j)) (.d (.int i)) (.d (.int j)) g Q := fun H vx vy k rx ry Q' q' => ⟨i, j, rx, ry, c, q' _ _ (post_same (r := .d (.int (f i j))) k rfl q)⟩
theorem rw_adds {i j : Str} (c : i.length + j.length ≤ sizeLine) (q : Q (.d (.str (i ++ j))) g) : RW W (fun x y H Q => ∃ i j, x = .str i ∧ y = .str j ∧ i.length + j.length ≤ sizeLine ∧ Q (.str (i ++ j)) H) (.d (.str i)) (.d (.str j)) g Q := fun H vx vy k rx ry Q' q' => ⟨i, j, rx, ry, c, q' _ _ (post_same (r := .d (.str (i ++ j))) k rfl q)⟩
/-- scalars -/
def flatD : D → Option V
  | .non => some .non
  | .bl b => some (.bl b)
  | .int i => some (.int i)
  | .str s => some (.str s)
  | _ => none
theorem flatD_rep {H : Hp} {x : D} {u v : V} (h : flatD x = some u) (r : Rep W H g x v) : v = u := by
  cases x <;> first | (cases h; exact r) | cases h
theorem rw_eq {x y : D} {u v : V} (hx : flatD x = some u) (hy : flatD y = some v) (hs : scal u v = true) (q : Q (.d (.bl (decide (u = v)))) g) : RW W rEq (.d x) (.d y) g Q := fun H vx vy k rx ry Q' q' => by
  rw [flatD_rep hx rx, flatD_rep hy ry]
  exact ⟨hs, q' _ _ (post_same (r := .d (.bl _)) k rfl q)⟩
theorem rw_ne {x y : D} {u v : V} (hx : flatD x = some u) (hy : flatD y = some v) (hs : scal u v = true) (q : Q (.d (.bl (!decide (u = v)))) g) : RW W rNe (.d x) (.d y) g Q := fun H vx vy k rx ry Q' q' => by
  rw [flatD_rep hx rx, flatD_rep hy ry]
  exact ⟨hs, q' _ _ (post_same (r := .d (.bl _)) k rfl q)⟩
end
mutual
def toPy : D → Option PyData
  | .non => some .none
  | .bl b => some (.bool b)
  | .int i => some (.int i)
  | .str s => some (.str s)
  | .lst l => (toPys l).map .list
  | .tup l => (toPys l).map .tuple
  | .ins _ _ => none
  | .cls _ => none
  | .fl l => (toPys l).map .list
def toPys : List D → Option (List PyData)
  | [] => some []
  | d :: l => match toPy d, toPys l with
    | some x, some xs => some (x :: xs)
    | _, _ => none
end
section
variable {W : Wd} {H : Hp} {g : G}
mutual
theorem dp_of : ∀ (x : D) (v : V) (p : PyData), Rep W H g x v → toPy x = some p → Dp W.K H v p
  | .non, v, p, r, h => by
    have h : some PyData.none = some p := by rw [← h, toPy]
    cases h; cases (show v = _ from r); exact .non
  | .bl b, v, p, r, h => by
    have h : some (PyData.bool b) = some p := by rw [← h, toPy]
    cases h; cases (show v = _ from r); exact .bl b
  | .int i, v, p, r, h => by
    have h : some (PyData.int i) = some p := by rw [← h, toPy]
    cases h; cases (show v = _ from r); exact .int i
  | .str s, v, p, r, h => by
    have h : some (PyData.str s) = some p := by rw [← h, toPy]
    cases h; cases (show v = _ from r); exact .str s
  | .lst l, v, p, r, h => by
    rw [toPy] at h
    obtain ⟨a, xs, rfl, h1, h2⟩ := r
    cases e : toPys l with
    | none => rw [e] at h; cases h
    | some ps =>
      rw [e] at h; cases h
      exact .lst h1.sq (dps_of l xs ps h2 e)
  | .tup l, v, p, r, h => by
    rw [toPy] at h
    obtain ⟨a, xs, rfl, h1, h2⟩ := r
    cases e : toPys l with
    | none => rw [e] at h; cases h
    | some ps =>
      rw [e] at h; cases h
      exact .tup h1.sq (dps_of l xs ps h2 e)
  | .ins _ _, v, p, r, h => by rw [toPy] at h; cases h
  | .cls _, v, p, r, h => by rw [toPy] at h; cases h
  | .fl l, v, p, r, h => by
    rw [toPy] at h
    obtain ⟨a, xs, rfl, h1, h2⟩ := r
    cases e : toPys l with
    | none => rw [e] at h; cases h
    | some ps =>
      rw [e] at h; cases h
      exact .lst h1.sq (dps_of l xs ps h2 e)
theorem dps_of : ∀ (l : List D) (xs : List V) (ps : List PyData), Reps W H g l xs → toPys l = some ps → DpAll W.K H xs ps
  | [], xs, ps, r, h => by
    rw [toPys] at h; cases h
    cases (show xs = [] from r); exact .nil
  | d :: l, xs, ps, r, h => by
    obtain ⟨x, r', rfl, h1, h2⟩ := r
    rw [toPys] at h
    cases e1 : toPy d with
    | none => rw [e1] at h; cases h
    | some q =>
      cases e2 : toPys l with
      | none => rw [e1, e2] at h; cases h
      | some qs =>
        rw [e1, e2] at h; cases h
        exact .cons (dp_of d x q h1 e1) (dps_of l r' qs h2 e2)
end
end
section
variable {W : Wd} {g : G} {Q : QE}
theorem rw_eqD {x y : D} {p q : PyData} (hx : toPy x = some p) (hy : toPy y = some q) (sp : SeqAt.shaped p = true) (sq : SeqAt.shaped q = true) (z : Q (.d (.bl (PyData.eqv p q))) g) : RW W (rEqD W.K) (.d x) (.d y) g Q := fun H vx vy k rx ry Q' q' =>
  ⟨p, q, dp_of x vx p rx hx, dp_of y vy q ry hy, sp, sq, q' _ _ (post_same (r := .d (.bl _)) k rfl z)⟩
theorem rw_neD {x y : D} {p q : PyData} (hx : toPy x = some p) (hy : toPy y = some q) (sp : SeqAt.shaped p = true) (sq : SeqAt.shaped q = true) (z : Q (.d (.bl (!PyData.eqv p q))) g) : RW W (rNeD W.K) (.d x) (.d y) g Q := fun H vx vy k rx ry Q' q' =>
  ⟨p, q, dp_of x vx p rx hx, dp_of y vy q ry hy, sp, sq, q' _ _ (post_same (r := .d (.bl _)) k rfl z)⟩
/-- a sequence that is read: a tree's, or a list that may change -/
def SeqOf (g : G) (sv : SV) (l : List SV) : Prop := (∃ l', sv = .d (.lst l') ∧ l = l'.map SV.d) ∨ (∃ l', sv = .d (.tup l') ∧ l = l'.map SV.d) ∨ (∃ a, sv = .ob a ∧ g a = some (.lst l)) ∨ (∃ l', sv = .d (.fl l') ∧ l = l'.map SV.d)
theorem SeqOf.v {H : Hp} {sv : SV} {l : List SV} {v : V} (s : SeqOf g sv l) (k : GOk W H g) (r : RepS W H g sv v) : ∃ a xs, v = .ref a ∧ (SqL W.K H a xs ∨ SqT W.K H a xs) ∧ RepSs W H g l xs := by
  rcases s with ⟨l', rfl, rfl⟩ | ⟨l', rfl, rfl⟩ | ⟨a, rfl, ha⟩ | ⟨l', rfl, rfl⟩
  · obtain ⟨a, xs, rfl, h1, h2⟩ := r
    exact ⟨a, xs, rfl, .inl h1.sq, reps_to h2⟩
  · obtain ⟨a, xs, rfl, h1, h2⟩ := r
    exact ⟨a, xs, rfl, .inr h1.sq, reps_to h2⟩
  · obtain ⟨xs, hx, rx⟩ := k a _ ha
    exact ⟨a, xs, r, .inl (.inl (.inl hx)), rx⟩
  · obtain ⟨a, xs, rfl, h1, h2⟩ := r
    exact ⟨a, xs, rfl, .inl h1.sq, reps_to h2⟩
def LstOf (g : G) (sv : SV) (l : List SV) : Prop := (∃ l', sv = .d (.lst l') ∧ l = l'.map SV.d) ∨ (∃ a, sv = .ob a ∧ g a = some (.lst l)) ∨ (∃ l', sv = .d (.fl l') ∧ l = l'.map SV.d)
theorem LstOf.v {H : Hp} {sv : SV} {l : List SV} {v : V} (s : LstOf g sv l) (k : GOk W H g) (r : RepS W H g sv v) : ∃ a xs, v = .ref a ∧ SqL W.K H a xs ∧ RepSs W H g l xs := by
  rcases s with ⟨l', rfl, rfl⟩ | ⟨a, rfl, ha⟩ | ⟨l', rfl, rfl⟩
  · obtain ⟨a, xs, rfl, h1, h2⟩ := r
    exact ⟨a, xs, rfl, h1.sq, reps_to h2⟩
  · obtain ⟨xs, hx, rx⟩ := k a _ ha
    exact ⟨a, xs, r, .inl (.inl hx), rx⟩
  · obtain ⟨a, xs, rfl, h1, h2⟩ := r
    exact ⟨a, xs, rfl, h1.sq, reps_to h2⟩
theorem rep_at {H : Hp} {l : List SV} {xs : List V} {i : Int} {sv : SV} (r : RepSs W H g l xs) (h : atI l i = some sv) : ∃ v, atI xs i = some v ∧ RepS W H g sv v := by
  unfold atI at h ⊢
  rw [← r.length]
  cases e : ixN l.length i with
  | none => rw [e] at h; cases h
  | some j =>
    rw [e] at h
    exact r.get h
theorem rw_ixL {s sv : SV} {l : List SV} {i : Int} (hs : LstOf g s l) (h : atI l i = some sv) (q : Q sv g) : RW W (rIxL W.K) s (.d (.int i)) g Q := fun H vx vy k rx ry Q' q' => by
  obtain ⟨a, xs, rfl, h1, h2⟩ := hs.v k rx
  obtain ⟨v, h3, h4⟩ := rep_at h2 h
  exact ⟨a, xs, i, v, rfl, ry, h1, h3, q' _ _ (post_same k h4 q)⟩
theorem atI_map {l : List D} {i : Int} {x : D} (h : atI l i = some x) : atI (l.map SV.d) i = some (.d x) := by
  unfold atI at h ⊢
  rw [List.length_map]
  cases e : ixN l.length i with
  | none => rw [e] at h; cases h
  | some j =>
    rw [e] at h
    have h : l[j]? = some x := h
    show (l.map SV.d)[j]? = some (.d x)
    rw [List.getElem?_map, h]; rfl
theorem rw_ixT {l : List D} {i : Int} {x : D} (h : atI l i = some x) (q : Q (.d x) g) : RW W (rIxT W.K) (.d (.tup l)) (.d (.int i)) g Q := fun H vx vy k rx ry Q' q' => by
  obtain ⟨a, xs, rfl, h1, h2⟩ := rx
  obtain ⟨v, h3, h4⟩ := rep_at (reps_to h2) (atI_map h)
  exact ⟨a, xs, i, v, rfl, ry, h1.sq, h3, q' _ _ (post_same k h4 q)⟩
theorem rw_ixS {z : Str} {i : Int} {c : Nat} (hz : z.length ≤ sizeLine) (h : atI z.cps.toList i = some c) (q : Q (.d (.str ⟨#[c]⟩)) g) : RW W rIxS (.d (.str z)) (.d (.int i)) g Q := fun H vx vy k rx ry Q' q' =>
  ⟨z, i, c, rx, ry, hz, h, q' _ _ (post_same (r := .d (.str _)) k rfl q)⟩
theorem reps_all_flat {H : Hp} : ∀ {l : List D} {xs : List V} {us : List V}, Reps W H g l xs → l.map flatD = us.map some → xs = us
  | [], xs, us, r, h => by
    cases (show xs = [] from r)
    cases us with
    | nil => rfl
    | cons => cases h
  | d :: l, xs, us, r, h => by
    obtain ⟨x, r', rfl, h1, h2⟩ := r
    cases us with
    | nil => cases h
    | cons u us =>
      rw [List.map_cons, List.map_cons] at h
      injection h with ha hb
      rw [flatD_rep ha h1, reps_all_flat h2 hb]
/-- x in a list or tuple of scalars; us: what the items are, as values -/
theorem rw_in {neg : Bool} {x : D} {u : V} {s : SV} {l : List D} {us : List V} (hx : flatD x = some u) (hs : s = .d (.lst l) ∨ s = .d (.tup l)) (hl : l.map flatD = us.map some) (f1 : flatV u = true) (f2 : us.all flatV = true) (q : Q (.d (.bl (if neg then !inV u us else inV u us))) g) : RW W (rIn W.K neg) (.d x) s g Q := fun H vx vy k rx ry Q' q' => by
  rw [flatD_rep hx rx]
  rcases hs with rfl | rfl
  · obtain ⟨a, xs, rfl, h1, h2⟩ := ry
    rw [reps_all_flat h2 hl] at h1
    exact ⟨a, us, rfl, .inl h1.sq, f1, f2, q' _ _ (post_same (r := .d (.bl _)) k rfl q)⟩
  · obtain ⟨a, xs, rfl, h1, h2⟩ := ry
    rw [reps_all_flat h2 hl] at h1
    exact ⟨a, us, rfl, .inr h1.sq, f1, f2, q' _ _ (post_same (r := .d (.bl _)) k rfl q)⟩
theorem rw_isN {s : SV} {b : Bool} (h : match s with | .d .non => b = true | _ => b = false) (q : Q (.d (.bl b)) g) : RW W (fun x y H Q => y = .non ∧ Q (.bl (decide (x = .non))) H) s (.d .non) g Q := fun H vx vy k rx ry Q' q' => by
  refine ⟨ry, ?_⟩
  have e : decide (vx = .non) = b := by
    cases s with
    | ob a => cases (show vx = .ref a from rx); exact h.symm
    | d x =>
      cases x with
      | non => cases (show vx = _ from rx); exact h.symm
      | bl b => cases (show vx = _ from rx); exact h.symm
      | int b => cases (show vx = _ from rx); exact h.symm
      | str b => cases (show vx = _ from rx); exact h.symm
      | lst l => obtain ⟨a, xs, rfl, _⟩ := rx; exact h.symm
      | tup l => obtain ⟨a, xs, rfl, _⟩ := rx; exact h.symm
      | ins c fs => obtain ⟨a, dx, vs, rfl, _⟩ := rx; exact h.symm
      | cls c => cases (show vx = _ from rx); exact h.symm
      | fl l => obtain ⟨a, xs, rfl, _⟩ := rx; exact h.symm
  rw [e]
  exact q' _ _ (post_same (r := .d (.bl b)) k rfl q)
end

/-! ### calls of built-ins -/
section
variable {X : Cx} {W : Wd} {ρ : Rho} {g : G} {Q : QE} {pos p apos cpos : Pos} {e o a b lo hi : Expr} {es : List Expr} {x name : Str} {id T : String}
theorem we_callB {r : List V → Hp → VK → Prop} (hc : CallR X (.builtin id) r) (hg : Gl X x) (hm : X.mg x = none) (hv : bootBuiltins x = some (.builtin id)) (h : WA X W (e :: es) ρ g fun svs g1 => RC W r svs g1 Q) (hn : x ≠ "__name__" := by decide) (hdb : (x == ("__debug__" : Str)) = false := by decide)
    (he : starEach (e :: es) X.env = (false, eval e X.env) :: starEach es X.env := by rfl) (hpl : (backTo pos (starEach es X.env)).any (·.1) = false := by rfl) : WE X W (.Call (.Name x p) (e :: es) [] pos) ρ g Q := fun σ H S Q' q' => by
  refine ts_of (pe_callB hc hg hm hv pa_s hn hdb he hpl) ?_
  exact h σ H S _ fun vs H1 ⟨svs, g1, k1, e1, r1, q⟩ => q H1 vs k1 r1 _ fun v H2 z => q' _ _ (z.back e1)
theorem we_callTy {r : List V → Hp → VK → Prop} (hc : CallR X (.type T) r) (hg : Gl X x) (hm : X.mg x = none) (hv : bootBuiltins x = some (.type T)) (h : WA X W (e :: es) ρ g fun svs g1 => RC W r svs g1 Q) (hn : x ≠ "__name__" := by decide) (hdb : (x == ("__debug__" : Str)) = false := by decide)
    (he : starEach (e :: es) X.env = (false, eval e X.env) :: starEach es X.env := by rfl) (hpl : (backTo pos (starEach es X.env)).any (·.1) = false := by rfl) : WE X W (.Call (.Name x p) (e :: es) [] pos) ρ g Q := fun σ H S Q' q' => by
  refine ts_of (pe_callTy hc hg hm hv pa_s hn hdb he hpl) ?_
  exact h σ H S _ fun vs H1 ⟨svs, g1, k1, e1, r1, q⟩ => q H1 vs k1 r1 _ fun v H2 z => q' _ _ (z.back e1)
def TyS (T : String) (g : G) : SV → Prop
  | .d (.str _) => T = "str"
  | .d (.int _) => T = "int"
  | .d (.lst _) => T = "list"
  | .ob a => T = "list" ∧ ∃ l, g a = some (.lst l)
  | _ => False
theorem TyS.v {H : Hp} {s : SV} {v : V} (t : TyS T g s) (k : GOk W H g) (r : RepS W H g s v) : tyV W.K T v H := by
  cases s with
  | ob a =>
    obtain ⟨rfl, l, ha⟩ := t
    obtain ⟨xs, hx, rx⟩ := k a _ ha
    cases (show v = _ from r)
    exact .inl ⟨rfl, xs, .inl (.inl hx)⟩
  | d x =>
    cases x with
    | str s => cases (show v = _ from r); exact t
    | int s => cases (show v = _ from r); exact t
    | lst l =>
      obtain ⟨a, xs, rfl, h1, h2⟩ := r
      exact .inl ⟨t, xs, h1.sq⟩
    | _ => exact False.elim t
theorem we_bm0 {r : V → List V → Hp → VK → Prop} (hK : X.K = W.K) (pa : PlainAttrs T) (slot : Slot T name id) (hty : typeOf (.builtin id) = pure (.type "method_descriptor")) (hm : MtR X id r) (h : WE X W o ρ g fun sv g1 => TyS T g1 sv ∧ RM W r sv [] g1 Q)
    (hbase : attributeBase o name X.env (eval o X.env) = eval o X.env := by rfl) (hline : (apos.endLine == cpos.line) = true := by rfl) : WE X W (.Call (.Attribute o name apos) [] [] cpos) ρ g Q := fun σ H S Q' q' => by
  refine ts_of (pe_bm0 pa slot hty hm pe_s hbase hline) ?_
  exact h σ H S _ fun v H1 ⟨sv, g1, k1, e1, r1, t, q⟩ => ⟨by rw [hK]; exact t.v k1 r1, q H1 v [] k1 r1 rfl _ fun v H2 z => q' _ _ (z.back e1)⟩
theorem we_bm {r : V → List V → Hp → VK → Prop} (hK : X.K = W.K) (pa : PlainAttrs T) (slot : Slot T name id) (hty : typeOf (.builtin id) = pure (.type "method_descriptor")) (hm : MtR X id r) (h : WE X W o ρ g fun sv g1 => TyS T g1 sv ∧ WA X W (e :: es) ρ g1 fun svs g2 => RM W r sv svs g2 Q)
    (hbase : attributeBase o name X.env (eval o X.env) = eval o X.env := by rfl)
    (hfew : ((backTo cpos (starEach (e :: es) X.env)).all (fun x => !x.1) && (backToKw cpos (keywordEach [] X.env)).all (fun x => x.1.isSome)
      && decide ((e :: es).length + ([] : List Keyword).length + (if ([] : List Keyword).isEmpty then 0 else 1) < 30)) = true := by rfl)
    (hline : (apos.endLine == cpos.line) = true := by rfl) (hs : starEach (e :: es) X.env = (false, eval e X.env) :: starEach es X.env := by rfl) (hplain : (backTo cpos (starEach es X.env)).any (·.1) = false := by rfl) :
    WE X W (.Call (.Attribute o name apos) (e :: es) [] cpos) ρ g Q := fun σ H S Q' q' => by
  refine ts_of (pe_bm pa slot hty hm pe_s pa_s hbase hfew hline hs hplain) ?_
  exact h σ H S _ fun v H1 ⟨sv, g1, k1, e1, r1, t, h1⟩ => ⟨by rw [hK]; exact t.v k1 r1, h1 σ H1 (S.ext k1 e1) _ fun vs H2 ⟨svs, g2, k2, e2, r2, q⟩ => q H2 v vs k2 (r1.ext e2) r2 _ fun v H3 z => q' _ _ (z.back (e1.trans e2))⟩
theorem we_ix {r : R2} (hr : IxR X r) (h : WE X W a ρ g fun x g1 => WE X W b ρ g1 fun y g2 => RW W r x y g2 Q) (hs : PlainIx b := by exact fun _ _ => rfl) : WE X W (.Subscript a b pos) ρ g Q := fun σ H S Q' q' => by
  refine ts_of (pe_ix hr pe_s pe_s hs) ?_
  exact h σ H S _ fun vx H1 ⟨x, g1, k1, e1, r1, h1⟩ => h1 σ H1 (S.ext k1 e1) _ fun vy H2 ⟨y, g2, k2, e2, r2, h2⟩ => h2 H2 vx vy k2 (r1.ext e2) r2 _ fun v H3 z => q' v H3 (z.back (e1.trans e2))
/-- a part of a slice -/
def WO (X : Cx) (W : Wd) (e : Option Expr) (ρ : Rho) (g : G) (Q : Option Int → G → Prop) : Prop := match e with
  | none => Q none g
  | some e => WE X W e ρ g fun s g' => ∃ i, s = .d (.int i) ∧ Q (some i) g'
def tO (X : Cx) : Option Expr → TO
  | none => tNoPart
  | some e => tPart (tS X e)
theorem po_s : ∀ {e : Option Expr}, PO X e (tO X e)
  | none => po_none
  | some e => po_some pe_s
theorem WO.run {e : Option Expr} {Q : Option Int → G → Prop} {σ : L2.St} {H : Hp} (h : WO X W e ρ g Q) (S : Sim W ρ g σ H) {Q' : Option Int → Hp → Prop} (q' : ∀ i H', (∃ g', GOk W H' g' ∧ Ext g H g' H' ∧ Q i g') → Q' i H') : tO X e σ H Q' := by
  cases e with
  | none => exact q' none H ⟨g, S.ok, Ext.refl g H, h⟩
  | some e => exact h σ H S _ fun v H1 ⟨s, g1, k1, e1, r1, i, hs, q⟩ => by subst hs; exact ⟨i, r1, q' _ _ ⟨g1, k1, e1, q⟩⟩
def RSl (W : Wd) (r : V → Option Int → Option Int → Hp → VK → Prop) (x : SV) (i j : Option Int) (g : G) (Q : QE) : Prop := ∀ H vx, GOk W H g → RepS W H g x vx → ∀ Q' : VK, (∀ v H', PostE W g H Q v H' → Q' v H') → r vx i j H Q'
theorem we_slice {lo hi : Option Expr} {p2 : Pos} {r : V → Option Int → Option Int → Hp → VK → Prop} (hr : SlR X r) (h : WE X W e ρ g fun x g1 => WO X W lo ρ g1 fun i g2 => WO X W hi ρ g2 fun j g3 => RSl W r x i j g3 Q) : WE X W (.Subscript e (.Slice lo hi none p2) pos) ρ g Q := fun σ H S Q' q' => by
  refine ts_of (pe_slice hr pe_s po_s po_s) ?_
  refine h σ H S _ fun vx H1 ⟨x, g1, k1, e1, r1, h1⟩ => h1.run (S.ext k1 e1) fun i H2 ⟨g2, k2, e2, h2⟩ => h2.run (S.ext k2 (e1.trans e2)) fun j H3 ⟨g3, k3, e3, h3⟩ => h3 H3 vx k3 (r1.ext (e2.trans e3)) _ fun v H4 z => q' v H4 (z.back ((e1.trans e2).trans e3))
def cutL {α : Type} (xs : List α) (lo hi : Option Int) : List α := (xs.drop (HT.sIx xs.length 0 lo)).take (HT.sIx xs.length xs.length hi - HT.sIx xs.length 0 lo)
theorem Reps.cut {H : Hp} {l : List D} {xs : List V} {i j : Option Int} (r : Reps W H g l xs) : Reps W H g (cutL l i j) (cutV xs i j) := by
  unfold cutL cutV
  rw [← r.length]
  exact (r.drop _).take _
theorem rsl_list {l : List D} {i j : Option Int} {s : SV} (hs : LstOf g s (l.map SV.d)) (q : Q (.d (.lst (cutL l i j))) g) : RSl W (rSlL W.K) s i j g Q := fun H vx k rx Q' q' => by
  obtain ⟨a, xs, rfl, h1, h2⟩ := hs.v k rx
  exact ⟨a, xs, rfl, h1, fun p hp => q' _ _ (post_lst k hp (reps_of h2).cut q)⟩
theorem rsl_tup {l : List D} {i j : Option Int} (hw : ¬ (HT.sIx l.length 0 i = 0 ∧ HT.sIx l.length l.length j = l.length)) (q : Q (.d (.tup (cutL l i j))) g) : RSl W (rSlT W.K) (.d (.tup l)) i j g Q := fun H vx k rx Q' q' => by
  obtain ⟨a, xs, rfl, h1, h2⟩ := rx
  exact ⟨a, xs, rfl, h1.sq, by rw [← h2.length]; exact hw, fun p hp => q' _ _ (post_tup k hp h2.cut q)⟩

/-! ### lists that may change -/
theorem rm_append {a : Addr} {s : SV} {l : List SV} (ha : g a = some (.lst l)) (hl : l.length < 100000) (q : Q (.d .non) (gset g a (.lst (l ++ [s])))) : RM W rAppend (.ob a) [s] g Q := fun H vx vs k rx rs Q' q' => by
  obtain ⟨v, r, rfl, r1, hr⟩ := rs
  cases (show r = [] from hr)
  obtain ⟨xs, hx, rr⟩ := k a _ ha
  exact ⟨a, xs, v, rx, rfl, hx, by rw [← rr.length]; exact Nat.lt_of_lt_of_le hl (by decide), q' _ _ (post_mut (r := .d .non) k ha (rr.append (show RepSs W H g [s] [v] from ⟨v, [], rfl, r1, rfl⟩)) rfl q)⟩
theorem rm_pop {a : Addr} {s : SV} {l : List SV} (ha : g a = some (.lst l)) (hl : l[l.length - 1]? = some s) (q : Q s (gset g a (.lst l.dropLast))) : RM W rPop (.ob a) [] g Q := fun H vx vs k rx rs Q' q' => by
  cases (show vs = [] from rs)
  obtain ⟨xs, hx, rr⟩ := k a _ ha
  obtain ⟨v, h1, h2⟩ := rr.get hl
  exact ⟨a, xs, v, rx, rfl, hx, by rw [← rr.length]; exact h1, q' _ _ (post_mut k ha rr.dropLast h2 q)⟩
theorem rm_popAt {a : Addr} {s : SV} {l : List SV} {i : Int} {j : Nat} (ha : g a = some (.lst l)) (h1 : -(2 ^ 63) ≤ i) (h2 : i < 2 ^ 63) (hj : seqIndex? i l.length = some j) (hl : l[j]? = some s) (q : Q s (gset g a (.lst (l.eraseIdx j)))) : RM W rPopAt (.ob a) [.d (.int i)] g Q := fun H vx vs k rx rs Q' q' => by
  obtain ⟨v, r, rfl, r1, hr⟩ := rs
  cases (show r = [] from hr)
  cases (show v = .int i from r1)
  obtain ⟨xs, hx, rr⟩ := k a _ ha
  obtain ⟨v, h3, h4⟩ := rr.get hl
  exact ⟨a, xs, i, j, v, rx, rfl, hx, h1, h2, by rw [← rr.length]; exact hj, h3, q' _ _ (post_mut k ha (rr.eraseIdx j) h4 q)⟩
theorem rc_len {s : SV} {l : List SV} (hs : SeqOf g s l) (q : Q (.d (.int l.length)) g) : RC W (fun xs H Q => ∃ x n, xs = [x] ∧ LenV W.K x H n ∧ Q (.int n) H) [s] g Q := fun H vs k rs Q' q' => by
  obtain ⟨v, r, rfl, r1, hr⟩ := rs
  cases (show r = [] from hr)
  obtain ⟨a, xs, rfl, h1, h2⟩ := hs.v k r1
  refine ⟨_, l.length, rfl, ?_, q' _ _ (post_same (r := .d (.int _)) k rfl q)⟩
  rcases h1 with h1 | h1
  · exact .inl ⟨xs, h1, h2.length⟩
  · exact .inr ⟨xs, h1, h2.length⟩
theorem rc_lenS {s : Str} (hs : s.length ≤ sizeLine) (q : Q (.d (.int s.length)) g) : RC W (fun xs H Q => ∃ x n, xs = [x] ∧ LenV W.K x H n ∧ Q (.int n) H) [.d (.str s)] g Q := fun H vs k rs Q' q' => by
  obtain ⟨v, r, rfl, r1, hr⟩ := rs
  cases (show r = [] from hr)
  cases (show v = .str s from r1)
  exact ⟨_, s.length, rfl, ⟨hs, rfl⟩, q' _ _ (post_same (r := .d (.int _)) k rfl q)⟩
end
end DL

namespace DL
open PySem PySem.Spec PyProof.Rows L2

/-! ### list comprehensions: one for, over a name -/
def wipeD (ρ : Rho) : List Nat → Rho
  | [] => ρ
  | v :: vs => (wipeD ρ vs).set v none
theorem Sim.wipe {W : Wd} {ρ : Rho} {g : G} {σ : L2.St} {H : Hp} (S : Sim W ρ g σ H) : ∀ vs : List Nat, Sim W (wipeD ρ vs) g (L2.wipe σ vs) H
  | [] => S
  | v :: vs => (Sim.wipe S vs).unset v (by show (List.set _ _ _).length = _; rw [List.length_set]) fun j hj => List.getElem?_set_ne (fun z => hj z.symm)
theorem wipe_set {σ : L2.St} {j : Nat} {y : Option V} : ∀ {vs : List Nat}, j ∈ vs → L2.wipe ((L2.wipe σ vs).set j y) vs = L2.wipe σ vs := by
  intro vs hj
  have len : ∀ (vs : List Nat) (σ : L2.St), (L2.wipe σ vs).length = σ.length := fun vs σ => wipe_length σ vs
  have get : ∀ (vs : List Nat) (σ : L2.St) (i : Nat), (L2.wipe σ vs)[i]? = if i ∈ vs then (if i < σ.length then some none else none) else σ[i]? := by
    intro vs
    induction vs with
    | nil => intro σ i; simp [L2.wipe]
    | cons v vs ih =>
      intro σ i
      show ((L2.wipe σ vs).set v none)[i]? = _
      by_cases h : v = i
      · subst h
        by_cases hl : v < σ.length
        · rw [List.getElem?_set_self (by rw [len]; exact hl), if_pos List.mem_cons_self, if_pos hl]
        · rw [List.getElem?_eq_none (by rw [List.length_set, len]; omega), if_pos List.mem_cons_self, if_neg hl]
      · rw [List.getElem?_set_ne h, ih]
        by_cases hm : i ∈ vs
        · rw [if_pos hm, if_pos (List.mem_cons_of_mem _ hm)]
        · rw [if_neg hm, if_neg (by simp only [List.mem_cons, not_or]; exact ⟨fun z => h z.symm, hm⟩)]
  apply List.ext_getElem?
  intro i
  rw [get, get]
  by_cases hi : i ∈ vs
  · rw [if_pos hi, if_pos hi, List.length_set, len]
  · rw [if_neg hi, if_neg hi, List.getElem?_set_ne (fun z => hi (by rw [← z]; exact hj)), get, if_neg hi]
section
variable {X : Cx} {W : Wd} {ρ : Rho} {g : G} {Q : QE} {pos p : Pos} {elt tg iter : Expr} {ifs : List Expr} {scope : Scope} {own : List (Str × Nat)}
/-- in each block of this comprehension -/
abbrev Blk (X : Cx) (scope : Scope) (F : Cx → Prop) : Prop := ∀ (s : Shared) (H : Hp) (C : Addr) (cl : List (Str × Addr)) (fp : List Addr), F (X.blk s H scope (compEnvC scope cl C X.env) fp)
/-- the tests' strongest reading, over all blocks -/
def tTs (X : Cx) (scope : Scope) (ifs : List Expr) : TT := match ifs with
  | [] => tYes
  | [c] => fun σ H Q => Blk X scope fun Y => tST Y c σ H Q
  | _ => fun _ _ _ => False
theorem pts_s : ∀ {ifs : List Expr}, Blk X scope fun Y => PTs Y ifs (tTs X scope ifs)
  | [] => fun s H C cl fp => pts_nil
  | [c] => fun s H C cl fp => pts_one ⟨fun pins s' σ' H' Q I h => h s H C cl fp pins s' I⟩
  | _ :: _ :: _ => fun s H C cl fp => ⟨fun pins s' σ' H' Q I h => h.elim⟩
/-- the tests -/
def WTs (X : Cx) (W : Wd) (scope : Scope) (ifs : List Expr) (ρ : Rho) (g : G) (Q : Bool → G → Prop) : Prop := match ifs with
  | [] => Q true g
  | [c] => Blk X scope fun Y => WT Y W c ρ g Q
  | _ => False
def tEl (X : Cx) (scope : Scope) (e : Expr) : TE := fun σ H Q => Blk X scope fun Y => tS Y e σ H Q
theorem pe_el {e : Expr} : Blk X scope fun Y => PE Y e (tEl X scope e) := fun s H C cl fp => ⟨fun pins s' σ' H' Q I h => h s H C cl fp pins s' I⟩
theorem WTs.run {Q : Bool → G → Prop} {σ : L2.St} {H : Hp} (h : WTs X W scope ifs ρ g Q) (S : Sim W ρ g σ H) {Q' : Bool → Hp → Prop} (q' : ∀ b H', PostT W g H Q b H' → Q' b H') : tTs X scope ifs σ H Q' := by
  match ifs, h with
  | [], h => exact q' _ _ ⟨g, S.ok, Ext.refl g H, h⟩
  | [c], h => exact fun s H' C cl fp => h s H' C cl fp σ H S Q' q'
  | _ :: _ :: _, h => exact False.elim h
theorem gdel_gset {L : Addr} {o : MO} (h : g L = none) : gdel (gset g L o) L = g := by
  funext b
  by_cases z : b = L
  · rw [z, gdel_same, h]
  · rw [gdel_ne z, gset_ne z]
/-- one turn's wish -/
def LcTurn (X : Cx) (W : Wd) (scope : Scope) (ifs : List Expr) (elt : Expr) (ρ : Rho) (vs : List Nat) (j : Nat) (x : D) (ys : List D) (g' : G) (N : List D → G → Prop) : Prop :=
  ∀ L : Addr, g' L = none → WTs X W scope ifs ((wipeD ρ vs).set j (some (.d x))) (gset g' L (.lst (ys.map SV.d))) fun b g2 =>
    if b = true then Blk X scope fun Y => WE Y W elt ((wipeD ρ vs).set j (some (.d x))) g2 fun r g3 => ∃ y g4, r = .d y ∧ g4 L = none ∧ g3 = gset g4 L (.lst (ys.map SV.d)) ∧ N (ys ++ [y]) g4
    else ∃ g4, g4 L = none ∧ g2 = gset g4 L (.lst (ys.map SV.d)) ∧ N ys g4
def LcP (W : Wd) (g1 : G) (H1 : Hp) (L : Addr) (I : Nat → List D → G → Prop) (i : Nat) (H' : Hp) : Prop := ∃ ys g', ys.length ≤ i ∧ g' L = none ∧ GOk W H' (gset g' L (.lst (ys.map SV.d))) ∧ Ext g1 H1 (gset g' L (.lst (ys.map SV.d))) H' ∧ I i ys g'
theorem lcp_zero {g1 : G} {H1 : Hp} {L : Addr} {I : Nat → List D → G → Prop} (k1 : GOk W H1 g1) (hD : H1 L = none) (i0 : I 0 [] g1) : LcP W g1 H1 L I 0 (upd H1 L (.lst [])) :=
  ⟨[], g1, Nat.le_refl _, k1.free hD, k1.newOb (m := .lst []) hD ⟨[], upd_same, rfl⟩, Ext.newOb hD, i0⟩
theorem lc_turn {g1 : G} {H1 H' : Hp} {L : Addr} {I : Nat → List D → G → Prop} {i j n : Nat} {vs : List Nat} {σ : L2.St} {x : D} {vx : V} (S1 : Sim W ρ g1 σ H1) (hj : j ∈ vs) (hi : i < n) (hn : n ≤ 1000000) (p : LcP W g1 H1 L I i H')
    (rx : ∀ g' H', Ext g1 H1 g' H' → Rep W H' g' x vx) (turn : ∀ ys g', I i ys g' → LcTurn X W scope ifs elt ρ vs j x ys g' (I (i + 1))) :
    gName j vx (L2.wipe σ vs) H' fun σ2 H2 => L2.wipe σ2 vs = L2.wipe σ vs ∧ tTs X scope ifs σ2 H2 fun b H3 =>
      if b = true then tEl X scope elt σ2 H3 fun y H4 => ∃ acc, H4 L = some (.lst acc) ∧ acc.length < sizeLine ∧ LcP W g1 H1 L I (i + 1) (upd H4 L (.lst (acc ++ [y]))) else LcP W g1 H1 L I (i + 1) H3 := by
  obtain ⟨ys, g', hy, hD, kk, ex, ii⟩ := p
  have hs : sizeLine = 16777216 := sizeLine_eq
  refine ⟨wipe_set hj, ?_⟩
  have S2 : Sim W ((wipeD ρ vs).set j (some (.d x))) (gset g' L (.lst (ys.map SV.d))) ((L2.wipe σ vs).set j (some vx)) H' := ((S1.ext kk ex).wipe vs).set (sv := .d x) j (rx _ _ ex)
  refine (turn ys g' ii L hD).run S2 fun b H3 ⟨g2, k2, e2, q⟩ => ?_
  cases b with
  | true =>
    rw [if_pos rfl] at q ⊢
    intro s Hs C cl fp
    refine q s Hs C cl fp _ H3 (S2.ext k2 e2) _ fun v H4 ⟨r, g3, k3, e3, r3, y, g4, hr, hD4, hg3, ii'⟩ => ?_
    subst hr hg3
    obtain ⟨acc, ha, ra⟩ := k3 L _ gset_same
    have hl := ra.length
    rw [List.length_map] at hl
    have e4 : Ext (gset g4 L (.lst (ys.map SV.d))) H4 (gset (gset g4 L (.lst (ys.map SV.d))) L (.lst ((ys ++ [y]).map SV.d))) (upd H4 L (.lst (acc ++ [v]))) := Ext.mut gset_same
    have k4 : GOk W (upd H4 L (.lst (acc ++ [v]))) (gset (gset g4 L (.lst (ys.map SV.d))) L (.lst ((ys ++ [y]).map SV.d))) := k3.mut (m' := .lst ((ys ++ [y]).map SV.d)) gset_same ⟨_, upd_same, by
      have z := (ra.append (show RepSs W H4 (gset g4 L (.lst (ys.map SV.d))) ([y].map SV.d) [v] from ⟨v, [], rfl, r3, rfl⟩)).ext e4
      have em : ys.map SV.d ++ [y].map SV.d = (ys ++ [y]).map SV.d := (List.map_append).symm
      rw [em] at z
      exact z⟩
    refine ⟨acc, ha, by rw [← hl]; omega, ys ++ [y], g4, by rw [List.length_append]; show ys.length + 1 ≤ i + 1; omega, hD4, ?_, ?_, ii'⟩
    · rw [gset_gset] at k4; exact k4
    · rw [gset_gset] at e4; exact ((ex.trans e2).trans e3).trans e4
  | false =>
    rw [if_neg (by decide)] at q ⊢
    obtain ⟨g4, hD4, hg2, ii'⟩ := q
    subst hg2
    exact ⟨ys, g4, by omega, hD4, k2, ex.trans e2, ii'⟩
theorem lc_done {g1 : G} {H1 H' : Hp} {L : Addr} {I : Nat → List D → G → Prop} {n : Nat} (p : LcP W g1 H1 L I n H') (done : ∀ ys g', ys.length ≤ n → I n ys g' → Q (.d (.lst ys)) g') : PostE W g1 H1 Q (.ref L) H' := by
  obtain ⟨ys, g', hy, hD, kk, ex, ii⟩ := p
  obtain ⟨acc, ha, ra⟩ := kk L _ gset_same
  have e2 : Ext (gset g' L (.lst (ys.map SV.d))) H' (gdel (gset g' L (.lst (ys.map SV.d))) L) H' := Ext.freeze
  have k2 : GOk W H' (gdel (gset g' L (.lst (ys.map SV.d))) L) := kk.freeze
  rw [gdel_gset hD] at e2 k2
  exact ⟨.d (.lst ys), g', k2, ex.trans e2, ⟨L, acc, rfl, ⟨ha, hD⟩, reps_of (ra.ext e2)⟩, done ys g' hy ii⟩
variable {j : Nat}
theorem lcL_run (I : List D → Nat → List D → G → Prop) (hK : X.K = W.K) (hj : j ∈ own.map (·.2))
    (h : WE X W iter ρ g fun sv g1 => ∃ l : List D, sv = .d (.lst l) ∧ l.length ≤ 1000000 ∧ I l 0 [] g1 ∧ (∀ i x ys g', l[i]? = some x → I l i ys g' → LcTurn X W scope ifs elt ρ (own.map (·.2)) j x ys g' (I l (i + 1))) ∧ ∀ ys g', ys.length ≤ l.length → I l l.length ys g' → Q (.d (.lst ys)) g')
    {σ : L2.St} {H : Hp} (S : Sim W ρ g σ H) {Q' : VK} (q' : ∀ v H', PostE W g H Q v H' → Q' v H') : tLc (iList X.K (tS X iter)) (gName j) (tTs X scope ifs) (tEl X scope elt) (own.map (·.2)) σ H Q' := by
  refine h σ H S _ fun v H1 ⟨sv, g1, k1, e1, r1, l, hl, hn, i0, turn, done⟩ => ?_
  subst hl
  obtain ⟨a, xs, rfl, h1, h2⟩ := r1
  rw [hK]
  refine ⟨a, rfl, ⟨xs, h1.sq⟩, fun L hL => lc_list (xs := xs) (LcP W g1 H1 L (I l)) (lcp_zero k1 hL i0) (fun i H' _ ⟨ys, g', hy, hL', kk, ex, ii⟩ => (h1.ext ex).sq) (fun i x H' hx p => ?_) fun H' p => ?_⟩
  · obtain ⟨d, hd, rd⟩ := h2.got hx
    have hi : i < l.length := (List.getElem?_eq_some_iff.mp hd).1
    exact lc_turn (S.ext k1 e1) hj hi hn p (fun g' H' ex => Rep.ext ex d x rd) fun ys g' ii => turn i d ys g' hd ii
  · rw [← h2.length] at p
    exact q' _ _ ((lc_done p done).back e1)
theorem we_lcL (I : List D → Nat → List D → G → Prop) (hc : X.calm = true) (hN : X.N.Nodup) (hK : X.K = W.K) (ok : BlkOk X.N X.env.scope scope own) (hg : Blk X scope fun Y => PG Y tg (gName j)) (hj : j ∈ own.map (·.2))
    (h : WE X W iter ρ g fun sv g1 => ∃ l : List D, sv = .d (.lst l) ∧ l.length ≤ 1000000 ∧ I l 0 [] g1 ∧ (∀ i x ys g', l[i]? = some x → I l i ys g' → LcTurn X W scope ifs elt ρ (own.map (·.2)) j x ys g' (I l (i + 1))) ∧ ∀ ys g', ys.length ≤ l.length → I l l.length ys g' → Q (.d (.lst ys)) g')
    (hs : ∀ x, foldedSetIterable iter X.env x = pure x := by intro _; rfl) : WE X W (.ListComp elt [⟨tg, iter, ifs, 0⟩] scope pos) ρ g Q := fun σ H S Q' q' =>
  ts_of (pe_lc hc hN (pi_list pe_s) ok hg pts_s pe_el hs) (lcL_run I hK hj h S q')
theorem w1_setLcL {P : P4} (i : Nat) {y : Str} {py spos : Pos} (I : List D → Nat → List D → G → Prop) (hc : X.calm = true) (hN : X.N.Nodup) (hK : X.K = W.K) (ok : BlkOk X.N X.env.scope scope own) (hg : Blk X scope fun Y => PG Y tg (gName j)) (hj : j ∈ own.map (·.2))
    (hsw : swapsWith (.ListComp elt [⟨tg, iter, ifs, 0⟩] scope pos) (some (.Name y py)) spos.line X.env = pure true)
    (h : WE X W iter ρ g fun sv g1 => ∃ l : List D, sv = .d (.lst l) ∧ l.length ≤ 1000000 ∧ I l 0 [] g1 ∧ (∀ i x ys g', l[i]? = some x → I l i ys g' → LcTurn X W scope ifs elt ρ (own.map (·.2)) j x ys g' (I l (i + 1))) ∧ ∀ ys g', ys.length ≤ l.length → I l l.length ys g' → P.nx (ρ.set i (some (.d (.lst ys)))) g')
    (hy : X.N[i]? = some y := by rfl) (hyl : X.env.scope.names.lookup y = some .local := by rfl) (hs : ∀ x, foldedSetIterable iter X.env x = pure x := by intro _; rfl) : W1 X W (.Assign [.Name y py] (.ListComp elt [⟨tg, iter, ifs, 0⟩] scope pos) spos) ρ g P := fun σ H S D k =>
  t1_of (ps_setLc hc hN hy hyl hsw (pi_list pe_s) ok hg pts_s pe_el hs) (lcL_run (Q := fun r g' => P.nx (ρ.set i (some r)) g') I hK hj h S fun v H' ⟨r, g', k', e', rr, q⟩ => k.nx _ _ ⟨_, g', (S.ext k' e').set i rr, e', q⟩)
theorem lcT_run (I : List D → Nat → List D → G → Prop) (hK : X.K = W.K) (hj : j ∈ own.map (·.2))
    (h : WE X W iter ρ g fun sv g1 => ∃ l : List D, sv = .d (.tup l) ∧ l.length ≤ 1000000 ∧ I l 0 [] g1 ∧ (∀ i x ys g', l[i]? = some x → I l i ys g' → LcTurn X W scope ifs elt ρ (own.map (·.2)) j x ys g' (I l (i + 1))) ∧ ∀ ys g', ys.length ≤ l.length → I l l.length ys g' → Q (.d (.lst ys)) g')
    {σ : L2.St} {H : Hp} (S : Sim W ρ g σ H) {Q' : VK} (q' : ∀ v H', PostE W g H Q v H' → Q' v H') : tLc (iTup X.K (tS X iter)) (gName j) (tTs X scope ifs) (tEl X scope elt) (own.map (·.2)) σ H Q' := by
  refine h σ H S _ fun v H1 ⟨sv, g1, k1, e1, r1, l, hl, hn, i0, turn, done⟩ => ?_
  subst hl
  obtain ⟨a, xs, rfl, h1, h2⟩ := r1
  rw [hK]
  refine ⟨a, rfl, ⟨xs, h1.sq⟩, fun L hL => lc_tup (xs := xs) (LcP W g1 H1 L (I l)) (lcp_zero k1 hL i0) (fun i H' _ ⟨ys, g', hy, hL', kk, ex, ii⟩ => (h1.ext ex).sq) (fun i x H' hx p => ?_) fun H' p => ?_⟩
  · obtain ⟨d, hd, rd⟩ := h2.got hx
    have hi : i < l.length := (List.getElem?_eq_some_iff.mp hd).1
    exact lc_turn (S.ext k1 e1) hj hi hn p (fun g' H' ex => Rep.ext ex d x rd) fun ys g' ii => turn i d ys g' hd ii
  · rw [← h2.length] at p
    exact q' _ _ ((lc_done p done).back e1)
theorem we_lcT (I : List D → Nat → List D → G → Prop) (hc : X.calm = true) (hN : X.N.Nodup) (hK : X.K = W.K) (ok : BlkOk X.N X.env.scope scope own) (hg : Blk X scope fun Y => PG Y tg (gName j)) (hj : j ∈ own.map (·.2))
    (h : WE X W iter ρ g fun sv g1 => ∃ l : List D, sv = .d (.tup l) ∧ l.length ≤ 1000000 ∧ I l 0 [] g1 ∧ (∀ i x ys g', l[i]? = some x → I l i ys g' → LcTurn X W scope ifs elt ρ (own.map (·.2)) j x ys g' (I l (i + 1))) ∧ ∀ ys g', ys.length ≤ l.length → I l l.length ys g' → Q (.d (.lst ys)) g')
    (hs : ∀ x, foldedSetIterable iter X.env x = pure x := by intro _; rfl) : WE X W (.ListComp elt [⟨tg, iter, ifs, 0⟩] scope pos) ρ g Q := fun σ H S Q' q' =>
  ts_of (pe_lc hc hN (pi_tup pe_s) ok hg pts_s pe_el hs) (lcT_run I hK hj h S q')
theorem w1_setLcT {P : P4} (i : Nat) {y : Str} {py spos : Pos} (I : List D → Nat → List D → G → Prop) (hc : X.calm = true) (hN : X.N.Nodup) (hK : X.K = W.K) (ok : BlkOk X.N X.env.scope scope own) (hg : Blk X scope fun Y => PG Y tg (gName j)) (hj : j ∈ own.map (·.2))
    (hsw : swapsWith (.ListComp elt [⟨tg, iter, ifs, 0⟩] scope pos) (some (.Name y py)) spos.line X.env = pure true)
    (h : WE X W iter ρ g fun sv g1 => ∃ l : List D, sv = .d (.tup l) ∧ l.length ≤ 1000000 ∧ I l 0 [] g1 ∧ (∀ i x ys g', l[i]? = some x → I l i ys g' → LcTurn X W scope ifs elt ρ (own.map (·.2)) j x ys g' (I l (i + 1))) ∧ ∀ ys g', ys.length ≤ l.length → I l l.length ys g' → P.nx (ρ.set i (some (.d (.lst ys)))) g')
    (hy : X.N[i]? = some y := by rfl) (hyl : X.env.scope.names.lookup y = some .local := by rfl) (hs : ∀ x, foldedSetIterable iter X.env x = pure x := by intro _; rfl) : W1 X W (.Assign [.Name y py] (.ListComp elt [⟨tg, iter, ifs, 0⟩] scope pos) spos) ρ g P := fun σ H S D k =>
  t1_of (ps_setLc hc hN hy hyl hsw (pi_tup pe_s) ok hg pts_s pe_el hs) (lcT_run (Q := fun r g' => P.nx (ρ.set i (some r)) g') I hK hj h S fun v H' ⟨r, g', k', e', rr, q⟩ => k.nx _ _ ⟨_, g', (S.ext k' e').set i rr, e', q⟩)
theorem lcR_run {ar : Expr} (I : Int → Nat → List D → G → Prop) (hj : j ∈ own.map (·.2))
    (h : WE X W ar ρ g fun sv g1 => ∃ n : Int, sv = .d (.int n) ∧ -1000000 ≤ n ∧ n ≤ 1000000 ∧ I n 0 [] g1 ∧ (∀ (i : Nat) ys g', (i : Int) < n → I n i ys g' → LcTurn X W scope ifs elt ρ (own.map (·.2)) j (.int i) ys g' (I n (i + 1))) ∧ ∀ ys g', ys.length ≤ n.toNat → I n n.toNat ys g' → Q (.d (.lst ys)) g')
    {σ : L2.St} {H : Hp} (S : Sim W ρ g σ H) {Q' : VK} (q' : ∀ v H', PostE W g H Q v H' → Q' v H') : tLc (iRng1 (tCons (tS X ar) tNil)) (gName j) (tTs X scope ifs) (tEl X scope elt) (own.map (·.2)) σ H Q' := by
  refine h σ H S _ fun v H1 ⟨sv, g1, k1, e1, r1, n, hl, hn1, hn2, i0, turn, done⟩ => ?_
  subst hl
  cases (show v = .int n from r1)
  refine ⟨n, rfl, by omega, by omega, fun L hL => lc_range (lo := 0) (n := n.toNat) (LcP W g1 H1 L (I n)) (lcp_zero k1 hL i0) (fun i H' hi p => ?_) fun H' p => ?_⟩
  · exact lc_turn (n := n.toNat) (x := .int i) (S.ext k1 e1) hj hi (by omega) p (fun g' H' ex => by show V.int (0 + (i : Int)) = V.int i; rw [Int.zero_add]) fun ys g' ii => turn i ys g' (by omega) ii
  · exact q' _ _ ((lc_done p done).back e1)
theorem we_lcR {ar : Expr} {rp rpos : Pos} (I : Int → Nat → List D → G → Prop) (hc : X.calm = true) (hN : X.N.Nodup) (ok : BlkOk X.N X.env.scope scope own) (hg : Blk X scope fun Y => PG Y tg (gName j)) (hj : j ∈ own.map (·.2)) (hgl : Gl X "range") (hm : X.mg "range" = none)
    (h : WE X W ar ρ g fun sv g1 => ∃ n : Int, sv = .d (.int n) ∧ -1000000 ≤ n ∧ n ≤ 1000000 ∧ I n 0 [] g1 ∧ (∀ (i : Nat) ys g', (i : Int) < n → I n i ys g' → LcTurn X W scope ifs elt ρ (own.map (·.2)) j (.int i) ys g' (I n (i + 1))) ∧ ∀ ys g', ys.length ≤ n.toNat → I n n.toNat ys g' → Q (.d (.lst ys)) g')
    (hst : starEach [ar] X.env = [(false, eval ar X.env)] := by rfl) (hst2 : starEach [ar] X.env = (false, eval ar X.env) :: starEach [] X.env := by rfl) (hs : ∀ x, foldedSetIterable (.Call (.Name "range" rp) [ar] [] rpos) X.env x = pure x := by intro _; rfl) : WE X W (.ListComp elt [⟨tg, .Call (.Name "range" rp) [ar] [] rpos, ifs, 0⟩] scope pos) ρ g Q := fun σ H S Q' q' =>
  ts_of (pe_lc hc hN (pi_range1 hgl hm (pa_cons pe_s pa_nil hst2) hst) ok hg pts_s pe_el hs) (lcR_run I hj h S q')
theorem w1_setLcR {P : P4} (i : Nat) {y : Str} {py spos : Pos} {ar : Expr} {rp rpos : Pos} (I : Int → Nat → List D → G → Prop) (hc : X.calm = true) (hN : X.N.Nodup) (ok : BlkOk X.N X.env.scope scope own) (hg : Blk X scope fun Y => PG Y tg (gName j)) (hj : j ∈ own.map (·.2)) (hgl : Gl X "range") (hm : X.mg "range" = none)
    (hsw : swapsWith (.ListComp elt [⟨tg, .Call (.Name "range" rp) [ar] [] rpos, ifs, 0⟩] scope pos) (some (.Name y py)) spos.line X.env = pure true)
    (h : WE X W ar ρ g fun sv g1 => ∃ n : Int, sv = .d (.int n) ∧ -1000000 ≤ n ∧ n ≤ 1000000 ∧ I n 0 [] g1 ∧ (∀ (i : Nat) ys g', (i : Int) < n → I n i ys g' → LcTurn X W scope ifs elt ρ (own.map (·.2)) j (.int i) ys g' (I n (i + 1))) ∧ ∀ ys g', ys.length ≤ n.toNat → I n n.toNat ys g' → P.nx (ρ.set i (some (.d (.lst ys)))) g')
    (hy : X.N[i]? = some y := by rfl) (hyl : X.env.scope.names.lookup y = some .local := by rfl)
    (hst : starEach [ar] X.env = [(false, eval ar X.env)] := by rfl) (hst2 : starEach [ar] X.env = (false, eval ar X.env) :: starEach [] X.env := by rfl) (hs : ∀ x, foldedSetIterable (.Call (.Name "range" rp) [ar] [] rpos) X.env x = pure x := by intro _; rfl) : W1 X W (.Assign [.Name y py] (.ListComp elt [⟨tg, .Call (.Name "range" rp) [ar] [] rpos, ifs, 0⟩] scope pos) spos) ρ g P := fun σ H S D k =>
  t1_of (ps_setLc hc hN hy hyl hsw (pi_range1 hgl hm (pa_cons pe_s pa_nil hst2) hst) ok hg pts_s pe_el hs) (lcR_run (Q := fun r g' => P.nx (ρ.set i (some r)) g') I hj h S fun v H' ⟨r, g', k', e', rr, q⟩ => k.nx _ _ ⟨_, g', (S.ext k' e').set i rr, e', q⟩)
/-- a turn that is no test and changes nothing -/
theorem lct_pure {x : D} {ys : List D} {g' : G} {vs : List Nat} {N : List D → G → Prop} (h : ∀ L, g' L = none → Blk X scope fun Y => WE Y W elt ((wipeD ρ vs).set j (some (.d x))) (gset g' L (.lst (ys.map SV.d))) fun r g3 => ∃ y, r = .d y ∧ g3 = gset g' L (.lst (ys.map SV.d)) ∧ N (ys ++ [y]) g') : LcTurn X W scope [] elt ρ vs j x ys g' N := fun L hL => by
  dsimp only [WTs]
  rw [if_pos rfl]
  intro s H C cl fp
  exact (h L hL s H C cl fp).imp fun r g3 ⟨y, e1, e2, e3⟩ => ⟨y, g', e1, hL, e2, e3⟩
end
end DL

namespace DL
open PySem PySem.Spec PyProof.Rows L2

abbrev FnP (K : PySem.W.Frag) (x qual : Str) (st : Stmt) (dvs : List V) (f : Addr) (fd : FuncData) : Prop := FunD K x qual (defArgs st) (defBody st) (defScope st) dvs [] f fd
section
variable {P : Program} {w : World} {W : Wd} {mg : Str → Option Value} {base : Heap}
/-- the context of a def's body -/
abbrev CxD (P : Program) (w : World) (W : Wd) (mg : Str → Option Value) (base : Heap) (N : List Str) (qual : Str) (sc : Scope) (f : Addr) (cdv : Value) (A : Around) (outer : List Env) (s : Shared) (H : Hp) (E : XK) : Cx := (cxOf CX0 P w W.K mg base N qual sc f cdv A outer s H E).nox
/-- THE RULE for a def -/
theorem fnDD {x qual : Str} {st : Stmt} {dvs : List V} {f : Addr} {fd : FuncData} {N ps : List Str} {k : Nat} {S : SpD} (F : FnP W.K x qual st dvs f fd) (sc : FnScope N ps (defScope st))
    (h : ∀ (cdv : Value) (A : Around) (outer : List Env) (s : Shared) (H : Hp) (E : XK) (svs : List SV) (g : G) (Q : QE), svs.length = ps.length → Room k (A.deeper (envOfC qual (defScope st) s.heap.objs.size f cdv)) → S svs g Q →
      WS (CxD P w W mg base N qual (defScope st) f cdv A outer s H E) W (defBody st) (startD N svs) g (retP Q)) : FnOk P w W.K mg base CX0 (k + 1) f fd ps (liftSp W ps.length S) := by
  refine FunD.ok F sc (fun vs H Q E q => q.1) fun cdv A outer s H vs Q E hr q => ?_
  obtain ⟨hl, svs, g, Q0, r, kk, q, qq⟩ := q
  refine ⟨_, PSs.nox pss_s, ?_⟩
  exact h cdv A outer s H E svs g Q0 (by rw [r.length]; exact hl) hr q (L2.start N vs) H (sim_start kk r) _ ⟨fun σ' H' ⟨ρ', g', s1, e1, q1⟩ => qq _ _ ⟨.d .non, g', s1.ok, e1, rfl, q1⟩, qq, fun σ' H' ⟨_, _, _, _, q1⟩ => q1, fun σ' H' ⟨_, _, _, _, q1⟩ => q1⟩
end

/-! ### more operations -/
section
variable {X : Cx} {W : Wd} {ρ : Rho} {g : G} {Q : QE} {pos p : Pos} {e : Expr}
/-- xs[::-1] -/
theorem we_revO {k : Nat} {p1 p2 p3 : Pos} (hK : X.K = W.K) (h : WE X W e ρ g fun sv g1 => ∃ l, LstOf g1 sv l ∧ ∀ a, g1 a = none → Q (.ob a) (gset g1 a (.lst l.reverse))) : WE X W (.Subscript e (.Slice none none (some (.UnaryOp .USub (.Constant (.int 1) k p1) p2)) p3) pos) ρ g Q := fun σ H S Q' q' => by
  refine ts_of (pe_revL pe_s) ?_
  refine h σ H S _ fun v H1 ⟨sv, g1, k1, e1, r1, l, hl, q⟩ => ?_
  obtain ⟨a, xs, rfl, h1, h2⟩ := hl.v k1 r1
  rw [hK]
  have rev : ∀ (l : List SV) (xs : List V), RepSs W H1 g1 l xs → RepSs W H1 g1 l.reverse xs.reverse := by
    intro l
    induction l with
    | nil => intro xs h; cases (show xs = [] from h); rfl
    | cons s r ih =>
      intro xs h
      obtain ⟨x, r', rfl, a1, a2⟩ := h
      rw [List.reverse_cons, List.reverse_cons]
      exact (ih _ a2).append ⟨x, [], rfl, a1, rfl⟩
  exact ⟨a, xs, rfl, h1, fun p hp => q' _ _ ((post_ob k1 hp (rev l xs h2) (q p (k1.free hp))).back e1)⟩
def PyS (g : G) (sv : SV) (p : PyData) : Prop := (∃ x, sv = .d x ∧ toPy x = some p) ∨ ∃ a l ps, sv = .ob a ∧ g a = some (.lst (l.map SV.d)) ∧ toPys l = some ps ∧ p = .list ps
theorem PyS.dp {H : Hp} {sv : SV} {v : V} {p : PyData} (h : PyS g sv p) (k : GOk W H g) (r : RepS W H g sv v) : Dp W.K H v p := by
  rcases h with ⟨x, rfl, h⟩ | ⟨a, l, ps, rfl, ha, hl, rfl⟩
  · exact dp_of x v p r h
  · obtain ⟨xs, hx, rx⟩ := k a _ ha
    cases (show v = _ from r)
    exact .lst (.inl (.inl hx)) (dps_of l xs ps (reps_of rx) hl)
theorem rw_eqP {x y : SV} {p q : PyData} (hx : PyS g x p) (hy : PyS g y q) (sp : SeqAt.shaped p = true) (sq : SeqAt.shaped q = true) (z : Q (.d (.bl (PyData.eqv p q))) g) : RW W (rEqD W.K) x y g Q := fun H vx vy k rx ry Q' q' =>
  ⟨p, q, hx.dp k rx, hy.dp k ry, sp, sq, q' _ _ (post_same (r := .d (.bl _)) k rfl z)⟩
theorem rw_neP {x y : SV} {p q : PyData} (hx : PyS g x p) (hy : PyS g y q) (sp : SeqAt.shaped p = true) (sq : SeqAt.shaped q = true) (z : Q (.d (.bl (!PyData.eqv p q))) g) : RW W (rNeD W.K) x y g Q := fun H vx vy k rx ry Q' q' =>
  ⟨p, q, hx.dp k rx, hy.dp k ry, sp, sq, q' _ _ (post_same (r := .d (.bl _)) k rfl z)⟩
theorem rc_abs {i : Int} (q : Q (.d (.int (if i < 0 then -i else i))) g) : RC W (fun xs H Q => ∃ i, xs = [.int i] ∧ Q (.int (if i < 0 then -i else i)) H) [.d (.int i)] g Q := fun H vs k rs Q' q' => by
  obtain ⟨v, r, rfl, r1, hr⟩ := rs
  cases (show r = [] from hr)
  cases (show v = .int i from r1)
  exact ⟨i, rfl, q' _ _ (post_same (r := .d (.int _)) k rfl q)⟩
theorem rc_int {i : Int} (q : Q (.d (.int i)) g) : RC W (fun xs H Q => (∃ i, xs = [.int i] ∧ Q (.int i) H) ∨ ∃ k, xs = [.bl k] ∧ Q (.int (if k then 1 else 0)) H) [.d (.int i)] g Q := fun H vs k rs Q' q' => by
  obtain ⟨v, r, rfl, r1, hr⟩ := rs
  cases (show r = [] from hr)
  cases (show v = .int i from r1)
  exact .inl ⟨i, rfl, q' _ _ (post_same (r := .d (.int _)) k rfl q)⟩
end

theorem ru_neg {W : Wd} {g : G} {Q : QE} {i : Int} (q : Q (.d (.int (-i))) g) : RU W (rU fun i => .int (-i)) (.d (.int i)) g Q := fun H vx k rx Q' q' => ⟨i, rx, q' _ _ (post_same (r := .d (.int (-i))) k rfl q)⟩
theorem atI_neg1 {α : Type} {l : List α} {x : α} (h : l[l.length - 1]? = some x) : atI l (-1) = some x := by
  have hl : 0 < l.length := by
    cases l with
    | nil => simp at h
    | cons _ _ => exact Nat.succ_pos _
  unfold atI ixN
  rw [if_neg (by decide), if_pos (by omega)]
  show l[((-1 : Int) + (l.length : Int)).toNat]? = some x
  have e : ((-1 : Int) + (l.length : Int)).toNat = l.length - 1 := by omega
  rw [e]; exact h
theorem last_map {α β : Type} {f : α → β} {l : List α} {x : α} (h : l[l.length - 1]? = some x) : (l.map f)[(l.map f).length - 1]? = some (f x) := by
  rw [List.length_map, List.getElem?_map, h]; rfl
theorem dec_ii (i j : Int) : decide (V.int i = V.int j) = decide (i = j) := by
  by_cases h : i = j
  · subst h; simp
  · rw [decide_eq_false h, decide_eq_false]; intro e; cases e; exact h rfl

/-! ### the source of draws: a list at a, its cells at q -/
def DealAt (a q : Addr) (g : G) : Prop := a ≠ q ∧ ∃ (cells : List Int) (m : Int), g a = some (.lst [.ob q, .d (.int m)]) ∧ g q = some (.lst ((cells.map D.int).map SV.d)) ∧ cells.length ≤ 63 ∧ (∀ c ∈ cells, 0 ≤ c) ∧ 0 ≤ m ∧ m < 2147483647
/-- all but the source is as it was -/
def Apart (a q : Addr) (g g' : G) : Prop := ∀ b, b ≠ a → b ≠ q → g' b = g b
theorem Apart.refl {a q : Addr} (g : G) : Apart a q g g := fun _ _ _ => rfl
theorem Apart.trans {a q : Addr} {g g1 g2 : G} (h : Apart a q g g1) (k : Apart a q g1 g2) : Apart a q g g2 := fun b h1 h2 => (k b h1 h2).trans (h b h1 h2)
def spDraw : SpD := fun svs g Q => ∃ a q many, svs = [.ob a, .d (.int many)] ∧ 0 < many ∧ many < 1073741824 ∧ DealAt a q g ∧ ∀ r g', 0 ≤ r → r < many → DealAt a q g' → Apart a q g g' → Q (.d (.int r)) g'
def spPick : SpD := fun svs g Q => ∃ a q l, svs = [.ob a, .d (.lst l)] ∧ 0 < l.length ∧ l.length < 1073741824 ∧ DealAt a q g ∧ ∀ x g', x ∈ l → DealAt a q g' → Apart a q g g' → Q (.d x) g'
def spDeal : SpD := fun svs g Q => ∃ (ns : List Int) (base : Int), svs = [.d (.lst (ns.map D.int)), .d (.int base)] ∧ ns.length ≤ 63 ∧ 0 ≤ base ∧ base ≤ 60 ∧ ∀ a q g', DealAt a q g' → Apart a q g g' → g a = none → g q = none → Q (.ob a) g'
theorem toPys_ints : ∀ l : List Int, toPys (l.map D.int) = some (l.map PyData.int)
  | [] => rfl
  | i :: l => by
    show (match toPy (.int i), toPys (l.map D.int) with | some x, some xs => some (x :: xs) | _, _ => none) = _
    rw [toPys_ints l]; rfl
theorem lay_ints : ∀ l : List Int, PyData.canLayAll0 (l.map PyData.int) = true
  | [] => rfl
  | i :: l => by
    show (PyData.canLay0 (.int i) && PyData.canLayAll0 (l.map PyData.int)) = true
    rw [lay_ints l]; rfl
theorem depthAll_ints : ∀ l : List Int, PyData.depthAll (l.map PyData.int) = 0
  | [] => rfl
  | i :: l => by
    show max (PyData.depth (.int i)) (PyData.depthAll (l.map PyData.int)) = 0
    rw [depthAll_ints l]; rfl
theorem depth_ints (l : List Int) : (PyData.list (l.map PyData.int)).depth ≤ 64 := by
  show PyData.depthAll (l.map PyData.int) + 1 ≤ 64
  rw [depthAll_ints l]; decide
theorem shaped_ints (l : List Int) : SeqAt.shaped (.list (l.map PyData.int)) = true := by
  unfold SeqAt.shaped
  have h1 : PyData.canLay0 (.list (l.map PyData.int)) = true := lay_ints l
  rw [h1, Bool.true_and]
  exact decide_eq_true (depth_ints l)
theorem eqv_ints_nil (l : List Int) : PyData.eqv (.list (l.map PyData.int)) (.list []) = l.isEmpty := by
  cases l <;> rfl
/-! ### what a caller must know of a def -/
structure CallOk (P : Program) (w : World) (W : Wd) (mg : Str → Option Value) (base : Heap) (x : Str) (k n : Nat) (S : SpD) : Prop where
  ex : ∃ f fd ps, FnOk P w W.K mg base CX0 k f fd ps (liftSp W n S) ∧ mg x = some (.ref f) ∧ PySem.W.keepIn W.K (.ref f) = true ∧ Binds W.K fd ps []
section
variable {X : Cx} {W : Wd} {ρ : Rho} {g : G} {Q : QE} {pos p : Pos} {e : Expr} {es : List Expr} {x : Str} {k n : Nat} {S : SpD}
theorem we_callC (C : CallOk X.prog X.w W X.mg X.base x k n S) (hr : Room k X.A) (h : WA X W (e :: es) ρ g fun svs g1 => svs.length = n ∧ S svs g1 Q) (hK : X.K = W.K := by rfl) (hg : Gl X x := by rfl) (hdb : (x == ("__debug__" : Str)) = false := by decide)
    (he : starEach (e :: es) X.env = (false, eval e X.env) :: starEach es X.env := by rfl) (hpl : (backTo pos (starEach es X.env)).any (·.1) = false := by rfl) : WE X W (.Call (.Name x p) (e :: es) [] pos) ρ g Q := by
  obtain ⟨f, fd, ps, F, m, kp, b⟩ := C.ex
  rw [← hK] at F kp b
  refine we_call F hr hg m kp b .nil defv_nil ?_ hdb he hpl
  intro σ H S' Q' q'
  exact h σ H S' Q' fun vs H' ⟨rs, g', k1, e1, r1, hl, q⟩ => q' vs H' ⟨rs, g', k1, e1, r1, hl, by rw [List.append_nil]; exact q⟩
theorem CallOk.mono {P : Program} {w : World} {mg : Str → Option Value} {base : Heap} {j : Nat} (C : CallOk P w W mg base x k n S) (h : k ≤ j) : CallOk P w W mg base x j n S := by
  obtain ⟨f, fd, ps, F, m, kp, b⟩ := C.ex
  exact ⟨f, fd, ps, F.mono h, m, kp, b⟩
end
end DL

namespace DL
open PySem PySem.Spec PyProof.Rows L2

/-! ### repr of data: where no repr is under way -/
def rRepr (K : PySem.W.Frag) : List V → Hp → VK → Prop := fun xs H Q => ∃ a p, xs = [.ref a] ∧ Dp K H (.ref a) p ∧ p.showable = true ∧ p.hasDict = false ∧ p.depth ≤ 60 ∧ p.shown.length ≤ sizeLine ∧ Q (.str p.shown) H
theorem cr_repr {X : Cx} (hg : X.A.guards = some []) (hu : X.A.units + 64 < cLine) : CallR X (.builtin "repr") (rRepr X.K) := by
  intro pins s σ H xs us Q I r h
  obtain ⟨a, p, rfl, hp, h1, h2, h3, h4, q⟩ := h
  cases r with
  | cons r1 rt =>
    cases rt
    cases (show _ = Value.ref a from r1)
    obtain ⟨as, rd⟩ := Dp.reads I p (.ref a) (.ref a) hp rfl
    refine repr_of_reads' rd h1 (fun z => by rw [h2] at z; cases z) hg (by omega) (fun b o e => e) (fun h' u tk k => ?_) h4
    exact ⟨.str p.shown, H, I.kept (t' := tk) k, ⟨u, rfl⟩, q⟩
section
variable {W : Wd} {g : G} {Q : QE}
theorem rc_repr {sv : SV} {p : PyData} (h : PyS g sv p) (hk : match p with | .list _ => True | .tuple _ => True | _ => False) (h1 : p.showable = true) (h2 : p.hasDict = false) (h3 : p.depth ≤ 60) (h4 : p.shown.length ≤ sizeLine) (q : Q (.d (.str p.shown)) g) : RC W (rRepr W.K) [sv] g Q := fun H vs k rs Q' q' => by
  obtain ⟨v, r, rfl, r1, hr⟩ := rs
  cases (show r = [] from hr)
  have hd := h.dp k r1
  have : ∃ a, v = .ref a := by
    cases hd with
    | lst _ _ => exact ⟨_, rfl⟩
    | tup _ _ => exact ⟨_, rfl⟩
    | _ => exact False.elim hk
  obtain ⟨a, rfl⟩ := this
  exact ⟨a, p, rfl, hd, h1, h2, h3, h4, q' _ _ (post_same (r := .d (.str p.shown)) k rfl q)⟩
end

/-! ### the law's own def, run where the caller stands -/
section
variable {P : Program} {w : World} {K : PySem.W.Frag} {mg : Str → Option Value} {base : Heap}
/-- a def's body gives its call, for one place to stand -/
theorem runAt {x qual : Str} {pa : Arguments} {bd : List Stmt} {sc : Scope} {dvs : List V} {kws : List (Str × V)} {f : Addr} {fd : FuncData} {N ps : List Str} {k : Nat} {A : Around} {outer : List Env} {s : Shared} {H : Hp} {args : Args} {us : List Value} {vs : List V} {Q : VK} {E : XK}
    (F : FunD K x qual pa bd sc dvs kws f fd) (S : FnScope N ps sc) (hr : Room (k + 1) A) (e0 : Env0 P w K mg base A outer s H) (hb : BindsTo s fd args (ps.zip us)) (rv : Vals vs us) (hl : vs.length = ps.length)
    (body : ∀ cdv, Room k (A.deeper (envOfC qual sc s.heap.objs.size f cdv)) → ∃ t, PSs (cxOf CX0 P w K mg base N qual sc f cdv A outer s H E) bd t ∧ t { nx := fun _ H' => Q .non H', rt := Q } (L2.start N vs) H) :
    codeAny (model P w) A (.call (.ref f) args) (CR CX0 outer P w H s Q E) s := by
  obtain ⟨oc, od, dV, kV, doc, pm, an, cdv, ct, osl, rfl, lk, hcd, _, _⟩ := F.ex
  have KX : K.In s.heap := e0.mod.kin.keeps (fun b o e => (e0.bs b o e).1)
  have lim : s.heap.NoLimit := e0.mod.nolimit.keeps (fun b o e => (e0.bs b o e).1)
  have kinds : ∀ y ∈ ps.zip us, sc.names.lookup y.1 = some .local ∨ (sc.names.lookup y.1 = some .cell ∧ ((cellsFrom (s.heap.objs.size + 1) sc.names []).lookup y.1).isSome = true) := by
    rintro ⟨n, v⟩ hy
    rcases S.par n (List.of_mem_zip hy).1 with q | q
    · exact Or.inl q
    · exact Or.inr ⟨q, PySem.W.cellsFrom_some _ _ _ (Or.inl q)⟩
  refine codeAny_call_function hr.depth (KX _ _ lk) rfl S.co S.gen rfl (PySem.W.codeRec_of KX hcd) (hb _ _ _ _ ?_)
  refine wpAny_newFunctionEnv_cells S.kind kinds fun env he s1 x => ?_
  subst he
  refine ⟨lim.keeps x.toInCall.keep, codeAny_func ?_⟩
  obtain ⟨t, ht, hq⟩ := body cdv (hr.deeper _)
  have I : Inv (cxOf CX0 P w K mg base N qual sc f cdv A outer s H E) [] (L2.start N vs) H s1 := inv_start S hr.hd e0 hl rv x
  refine wpAny_mono (ht.run [] s1 (L2.start N vs) H _ I hq) (fun fl s' hs => ?_) (fun e s' hs => hs)
  cases fl with
  | ret u =>
    obtain ⟨v, σ', H', J, r', q⟩ := hs
    exact ⟨v, H', J.os, J.bare, J.base, J.hok, r', q⟩
  | next =>
    obtain ⟨σ', H', J, q⟩ := hs
    exact ⟨.non, H', J.os, J.bare, J.base, J.hok, rfl, q⟩
  | brk => obtain ⟨_, _, _, q⟩ := hs; exact q.elim
  | cont => obtain ⟨_, _, _, q⟩ := hs; exact q.elim
/-- what the law's def is to keep, where the caller stands -/
def LawAt (P : Program) (w : World) (K : PySem.W.Frag) (mg : Str → Option Value) (base : Heap) (fa : Addr) (fd : FuncData) (x : Str) (sp : Sp) : Prop :=
  ∀ (s : Shared) (H : Hp) (us : List Value) (vs : List V) (Q : VK), Env0 P w K mg base callerA [] s H → BindsTo s fd ⟨us, []⟩ ([x].zip us) → Vals vs us → sp vs H Q (fun _ _ _ => False) → codeAny (model P w) callerA (.call (.ref fa) ⟨us, []⟩) (CR CX0 [] P w H s Q fun _ _ _ => False) s
/-- the script's own call, out of the promise at one abstract heap: everything but the script at a stands in base -/
theorem law_core {mb : Str → Option Value} {fa a : Addr} {fd : FuncData} {x : Str} {sp : Sp} {s₁ : Shared} {vs : List Value} {H : Hp}
    (KX : K.In s₁.heap) (hns : s₁.heap.Ns mainGlobals mg) (hb : s₁.heap.Ns builtinsNs mb) (hbb : ∀ x : Str, x ≠ "__name__" → mb x = bootBuiltins x) (hlim : s₁.heap.NoLimit) (hg : s₁.gens = #[])
    (ha : s₁.heap.get? a = some { cls := .type "list", data := .seq vs.toArray })
    (F : ∀ base : Heap, K.In base → base.Ns mainGlobals mg → LawAt P w K mg base fa fd x sp) (hbind : ∀ (s : Shared) (u : Value), BindsTo s fd ⟨[u], []⟩ [(x, u)])
    (hO : Only H) (hsp : sp [.ref a] H (fun v _ => v = .bl true) fun _ _ _ => False) (hok : HOk P w H s₁.heap) (hA : ∀ b, H b ≠ none → b = a) (hK : H a ≠ none → K.lookup a = none) :
    codeAny (model P w) callerA (.call (.ref fa) ⟨[.ref a], []⟩) (fun r s' => r = .ok (.ret (.bool true)) ∧ OldK s₁.heap s'.heap ∧ s'.os = s₁.os ∧ AllBare s'.gens) s₁ := by
  have one : ∀ {b : Addr} {u : HO}, H b = some u → b = a := fun {b u} q => hA b (by rw [q]; exact fun z => by cases z)
  have free : ∀ {b : Addr} {o : Obj}, s₁.heap.get? b = some o → (∀ its n, o.data ≠ .seq its n) → H b = none := by
    intro b o e d
    cases q : H b with
    | none => rfl
    | some u =>
      have z := one q
      rw [z, ha] at e
      exact absurd (congrArg Obj.data (Option.some.inj e)).symm (d _ _)
  have ns' : ∀ {b : Addr} {m : Str → Option Value}, s₁.heap.Ns b m → (hidT s₁.heap H).Ns b m := by
    rintro b m ⟨o, es, ep, e, d, r⟩
    exact ⟨o, es, ep, hidT_get e (free e fun its n z => by rw [d] at z; cases z), d, r⟩
  have inK : K.In (hidT s₁.heap H) := by
    intro b o e
    refine hidT_get (KX b o e) ?_
    cases q : H b with
    | none => rfl
    | some u =>
      have z := one q
      have hn := hK (by rw [← z, q]; exact fun z => by cases z)
      rw [z, hn] at e; cases e
  obtain ⟨mc, l1, l2⟩ := hlim
  have M : Mod K mg (hidT s₁.heap H) := ⟨inK, ns' hns, ⟨mb, ns' hb, hbb⟩, mc, ns' l1, l2⟩
  have e0 : Env0 P w K mg (hidT s₁.heap H) callerA [] s₁ H :=
    { frames := rfl, mod := M, bs := fun b o e => of_hidT e, bsz := Nat.le_of_eq (hidT_size _ _), funs := trivial, frf := (fun b hb => by cases hb), hok := hok, bare := .of_eq hg }
  refine codeAny_mono (F _ inK (ns' hns) s₁ H [.ref a] [.ref a] _ e0 (hbind s₁ (.ref a)) (.cons rfl .nil) hsp) fun r s' h => ?_
  match r, h with
  | .error e, h => exact False.elim h
  | .ok .next, h => exact False.elim h
  | .ok .brk, h => exact False.elim h
  | .ok .cont, h => exact False.elim h
  | .ok (.ret u), h =>
    obtain ⟨v, H', os, bare, un, hok', r', q⟩ := h
    cases (show v = .bl true from q)
    cases (show u = Value.bool true from r')
    refine ⟨rfl, OldK.of_keep fun b o e => ?_, os, bare⟩
    cases q : H b with
    | none => exact un.keep b o e q (fun z => by cases z) (fun z => by cases z)
    | some u =>
      rcases hO b with z | ⟨ob, xs, z⟩
      · rw [q] at z; cases z
      · have p1 := (hok b _ z).1
        have p2 := (hok' b _ (un.frzs b ob _ z)).1
        rw [e] at p1
        rw [Option.some.inj p1]
        exact p2
theorem law_end {mb : Str → Option Value} {fa a : Addr} {fd : FuncData} {x : Str} {sp : Sp} {s₁ : Shared} {vs : List Value} {ns : List Int}
    (KX : K.In s₁.heap) (hns : s₁.heap.Ns mainGlobals mg) (hb : s₁.heap.Ns builtinsNs mb) (hbb : ∀ x : Str, x ≠ "__name__" → mb x = bootBuiltins x) (hlim : s₁.heap.NoLimit) (hg : s₁.gens = #[])
    (ha : s₁.heap.get? a = some { cls := .type "list", data := .seq vs.toArray }) (hi : IntsAre vs ns) (hl : ns.length ≤ sizeLine)
    (F : ∀ base : Heap, K.In base → base.Ns mainGlobals mg → LawAt P w K mg base fa fd x sp) (hbind : ∀ (s : Shared) (u : Value), BindsTo s fd ⟨[u], []⟩ [(x, u)])
    (hsp : ∀ H : Hp, Only H → SqL K H a (ns.map V.int) → sp [.ref a] H (fun v _ => v = .bl true) fun _ _ _ => False) :
    codeAny (model P w) callerA (.call (.ref fa) ⟨[.ref a], []⟩) (fun r s' => r = .ok (.ret (.bool true)) ∧ OldK s₁.heap s'.heap ∧ s'.os = s₁.os ∧ AllBare s'.gens) s₁ := by
  have rv := vals_ints hi
  cases hk : K.lookup a with
  | some o =>
    have e := (KX a o hk).symm.trans ha
    cases e
    have hO : Only fun _ => none := fun _ => Or.inl rfl
    refine law_core KX hns hb hbb hlim hg ha F hbind hO (hsp _ hO (Or.inr ⟨_, vs.toArray, _, hk, rfl, rfl, rfl, ?_, by simpa using rv⟩)) (fun b u z => by cases z) (fun b z => absurd rfl z) (fun z => absurd rfl z)
    rw [List.size_toArray, hi.length]; exact hl
  | none =>
    let H : Hp := fun b => if b = a then some (.frz { cls := .type "list", data := .seq vs.toArray } (.lst (ns.map V.int))) else none
    have Ha : H a = some (.frz { cls := .type "list", data := .seq vs.toArray } (.lst (ns.map V.int))) := if_pos rfl
    have Hn : ∀ b, b ≠ a → H b = none := fun b z => if_neg z
    have hO : Only H := fun b => by
      by_cases z : b = a
      · rw [z]; exact Or.inr ⟨_, _, Ha⟩
      · exact Or.inl (Hn b z)
    refine law_core KX hns hb hbb hlim hg ha F hbind hO (hsp H hO (Or.inl (Or.inr ⟨_, Ha⟩))) (fun b u z => ?_) (fun b z => ?_) (fun _ => hk)
    · by_cases y : b = a
      · subst y
        rw [Ha] at z; cases z
        exact ⟨ha, by rw [List.length_map]; exact hl, vs, _, rv, ha⟩
      · rw [Hn b y] at z; cases z
    · by_cases y : b = a
      · exact y
      · exact absurd (Hn b y) z
end
/-- the walk's goal, out of the law's def and its promise -/
theorem walkAt {l : PySem.W.OpenLaw} {n : Nat} {q : Program} {loose : List Str} {XP : (Str → Option Value) → Heap → Prop} {YP : World → Heap → Prop} {d : DefRec} {x : Str} (hn : l.most = some n) (hn2 : n ≤ sizeLine) (hdf : d.params.defaults = [])
    (F : ∀ (w : World) (mg : Str → Option Value) (fa : Addr) (h : Heap), YP w h → h.Ns mainGlobals mg → mg d.name = some (.ref fa) →
      ∃ (K : PySem.W.Frag) (fd : FuncData) (sp : Sp), K.In h ∧ (∀ (s : Shared) (u : Value), BindsTo s fd ⟨[u], []⟩ [(x, u)]) ∧
        (∀ (H : Hp) (a : Addr) (ns : List Int), ns.length ≤ n → Only H → SqL K H a (ns.map V.int) → sp [.ref a] H (fun v _ => v = .bl true) fun _ _ _ => False) ∧ ∀ base : Heap, K.In base → base.Ns mainGlobals mg → LawAt l.prog w K mg base fa fd x sp) :
    PySem.W.WalkO q loose XP YP l.row.toRowW d [] (fun f vs => PySem.call f vs) := by
  refine Att.attach_call hn hdf fun w s₀ s₁ mg mb fa o pm cd doc a vs ns G Y ho hd hcd hmg hobj hints hlen hg => ?_
  obtain ⟨K, fd, sp, KX, hb, hsp, hF⟩ := F w mg fa _ Y G.T.g hmg
  exact law_end KX G.T.g G.T.b G.T.builtins G.T.nolimit hg hobj hints (Nat.le_trans hlen hn2) hF hb fun H hO hS => hsp H a ns hlen hO hS
/-- the law's promise: of a script it gives True -/
def spLawD (W : Wd) : Sp := fun vs H Q _ => ∃ (a : Addr) (ns : List Int), vs = [.ref a] ∧ SqL W.K H a (ns.map V.int) ∧ ns.length ≤ 63 ∧ ∀ H', Q (.bl true) H'
theorem rep_ints {W : Wd} {H : Hp} {g : G} : ∀ ns : List Int, Reps W H g (ns.map D.int) (ns.map V.int)
  | [] => rfl
  | n :: ns => ⟨.int n, _, rfl, rfl, rep_ints ns⟩
theorem rep_script {W : Wd} {H : Hp} {a : Addr} {ns : List Int} (h : SqL W.K H a (ns.map V.int)) : Rep W H (fun _ => none) (.fl (ns.map D.int)) (.ref a) := by
  refine ⟨a, _, rfl, ?_, rep_ints ns⟩
  rcases h with h | h
  · exact Or.inl ⟨h, rfl⟩
  · exact Or.inr h
/-- THE RULE for the law's def -/
theorem lawD {P : Program} {w : World} {W : Wd} {mg : Str → Option Value} {base : Heap} {st : Stmt} {x qual : Str} {f : Addr} {fd : FuncData} {N ps : List Str} {k : Nat} {y : Str} (F : FnP W.K x qual st [] f fd) (sc : FnScope N ps (defScope st)) (hps : ps = [y]) (hr : Room (k + 1) callerA)
    (h : ∀ (cdv : Value) (s : Shared) (H : Hp) (ns : List Int), ns.length ≤ 63 → Room k (callerA.deeper (envOfC qual (defScope st) s.heap.objs.size f cdv)) →
      WS (CxD P w W mg base N qual (defScope st) f cdv callerA [] s H fun _ _ _ => False) W (defBody st) (startD N [.d (.fl (ns.map D.int))]) (fun _ => none) (retP fun r _ => r = .d (.bl true))) : LawAt P w W.K mg base f fd y (spLawD W) := by
  intro s H us vs Q e0 hb rv q
  obtain ⟨a, ns, rfl, hS, hl, kq⟩ := q
  subst hps
  refine runAt F sc hr e0 hb rv rfl fun cdv hr' => ⟨_, PSs.nox pss_s, ?_⟩
  have k0 : GOk W H fun _ => none := fun a o e => by cases e
  have rs : RepSs W H (fun _ => none) [.d (.fl (ns.map D.int))] [.ref a] := ⟨_, _, rfl, rep_script hS, rfl⟩
  exact h cdv s H ns hl hr' (L2.start N [.ref a]) H (sim_start k0 rs) _ ⟨(fun σ' H' ⟨_, _, _, _, z⟩ => by cases z), (fun v H' ⟨r, g', k', e', r', z⟩ => by subst z; cases (show v = .bl true from r'); exact kq H'), (fun σ' H' ⟨_, _, _, _, z⟩ => z), (fun σ' H' ⟨_, _, _, _, z⟩ => z)⟩
end DL

/-! isinstance over the data layer -/
namespace DL
open PySem PySem.Spec PyProof.Rows L2
/-- what isinstance asks of an own class's instances -/
structure InsC (K : PySem.W.Frag) (C : Addr) : Prop where
  c : Cls K C
  ha : PySem.W.findIn K (.ref C) "__class__" = some (some (.builtin "object.__class__"))
  hn : PySem.W.specialIn K (.builtin "object.__class__") "__get__" = some (some (.builtin "getset_descriptor.__get__"))
  ht : PySem.W.takesIn K (.builtin "object.__class__") = some true
  hm : PySem.W.mroIn K C (.type "object") = some true
/-- of which type a slot's value is -/
inductive TyW (W : Wd) (g : G) : SV → Value → Prop where
  | non : TyW W g (.d .non) (.type "NoneType")
  | bl (b : Bool) : TyW W g (.d (.bl b)) (.type "bool")
  | int (i : Int) : TyW W g (.d (.int i)) (.type "int")
  | str (s : Str) : TyW W g (.d (.str s)) (.type "str")
  | lst (l : List D) : TyW W g (.d (.lst l)) (.type "list")
  | tup (l : List D) : TyW W g (.d (.tup l)) (.type "tuple")
  | fl (l : List D) : TyW W g (.d (.fl l)) (.type "list")
  | ins {c : Nat} {fs : List (Str × D)} (h : InsC W.K (W.cl c)) : TyW W g (.d (.ins c fs)) (.ref (W.cl c))
  | obl {a : Addr} {l : List SV} (h : g a = some (.lst l)) : TyW W g (.ob a) (.type "list")
  | obi {a : Addr} {c : Nat} {fs : List (Str × SV)} (h : g a = some (.ins c fs)) (k : InsC W.K (W.cl c)) : TyW W g (.ob a) (.ref (W.cl c))
section
variable {W : Wd} {g : G}
theorem tyx_list {H : Hp} {a : Addr} {xs : List V} (h : SL W.K H g a xs) : TyX W.K H (.ref a) (.type "list") := by
  rcases h with ⟨h | ⟨o, h⟩, _⟩ | ⟨o, its, n, hk, hc, _⟩
  · exact .base (.lst h)
  · exact .base (.frz h)
  · exact .kList hk hc
theorem tyx_tup {H : Hp} {a : Addr} {xs : List V} (h : ST W.K H g a xs) : TyX W.K H (.ref a) (.type "tuple") := by
  rcases h with ⟨h | ⟨o, h⟩, _⟩ | ⟨o, its, n, hk, hc, _⟩
  · exact .base (.tup h)
  · exact .fTuple h
  · exact .kTuple hk hc
theorem TyW.x {H : Hp} {sv : SV} {v : V} {t : Value} (h : TyW W g sv t) (k : GOk W H g) (r : RepS W H g sv v) : TyX W.K H v t := by
  cases h with
  | non => cases (show v = .non from r); exact .base .non
  | bl b => cases (show v = .bl b from r); exact .base (.bl b)
  | int i => cases (show v = .int i from r); exact .base (.int i)
  | str s => cases (show v = .str s from r); exact .base (.str s)
  | lst l =>
    obtain ⟨a, xs, rfl, h1, _⟩ := r
    exact tyx_list (.inl ⟨.inl h1.1, h1.2⟩)
  | fl l =>
    obtain ⟨a, xs, rfl, h1, _⟩ := r
    exact tyx_list h1
  | tup l =>
    obtain ⟨a, xs, rfl, h1, _⟩ := r
    exact tyx_tup h1
  | ins h =>
    obtain ⟨a, dx, vs, rfl, h1, _, _⟩ := r
    exact .base (.ins h1 h.c h.ha h.hn h.ht h.hm)
  | obl h =>
    obtain ⟨xs, hx, _⟩ := k _ _ h
    cases (show v = _ from r)
    exact .base (.lst hx)
  | obi h c =>
    obtain ⟨dx, vs, hx, _⟩ := k _ _ h
    cases (show v = _ from r)
    exact .base (.ins hx c.c c.ha c.hn c.ht c.hm)
end
section
variable {X : Cx} {W : Wd} {ρ : Rho} {g : G} {Q : QE} {pos p : Pos} {e e2 e3 : Expr}
/-- isinstance(e, C) -/
theorem we_isi {v2 : V} {cv : Value} (hK : X.K = W.K) (hm : X.mg "isinstance" = none) (h2 : PE X e2 (tC v2)) (kv : ClsV v2 cv) (h : WE X W e ρ g fun sv g1 => ∃ t b, TyW W g1 sv t ∧ PySem.W.kitOne W.K t cv = some b ∧ Q (.d (.bl b)) g1) (hg : Gl X "isinstance" := by rfl)
    (he : starEach [e, e2] X.env = (false, eval e X.env) :: starEach [e2] X.env := by rfl) (he2 : starEach [e2] X.env = (false, eval e2 X.env) :: starEach [] X.env := by rfl) (hpl : (backTo pos (starEach [e2] X.env)).any (·.1) = false := by rfl) :
    WE X W (.Call (.Name "isinstance" p) [e, e2] [] pos) ρ g Q := fun σ H S Q' q' => by
  refine ts_of (pe_callB call_isi hg hm PyProof.Rows.boot_isinstance (pa_cons pe_s (pa_cons h2 pa_nil he2) he) (by decide) (by decide) he hpl) ?_
  refine h σ H S _ fun v H1 ⟨sv, g1, k1, e1, r1, t, b, ty, hk, q⟩ => ?_
  rw [hK]
  exact ⟨v, v2, t, cv, b, rfl, kv, ty.x k1 r1, hk, q' _ _ ⟨.d (.bl b), g1, k1, e1, rfl, q⟩⟩
/-- isinstance(e, (C1, C2)) -/
theorem we_isi2 {v2 v3 : V} {cv dv : Value} {pt : Pos} {kt} (hK : X.K = W.K) (hm : X.mg "isinstance" = none) (h2 : PE X e2 (tC v2)) (h3 : PE X e3 (tC v3)) (kv : ClsV v2 cv) (kv3 : ClsV v3 dv) (h : WE X W e ρ g fun sv g1 => ∃ t b, TyW W g1 sv t ∧ PySem.W.kitAny W.K t [cv, dv] = some b ∧ Q (.d (.bl b)) g1) (hg : Gl X "isinstance" := by rfl)
    (he : starEach [e, .Tuple [e2, e3] kt pt] X.env = (false, eval e X.env) :: starEach [.Tuple [e2, e3] kt pt] X.env := by rfl) (he2 : starEach [.Tuple [e2, e3] kt pt] X.env = (false, eval (.Tuple [e2, e3] kt pt) X.env) :: starEach [] X.env := by rfl)
    (he3 : starEach [e2, e3] X.env = (false, eval e2 X.env) :: starEach [e3] X.env := by rfl) (he4 : starEach [e3] X.env = (false, eval e3 X.env) :: starEach [] X.env := by rfl) (hpl : (backTo pos (starEach [.Tuple [e2, e3] kt pt] X.env)).any (·.1) = false := by rfl) :
    WE X W (.Call (.Name "isinstance" p) [e, .Tuple [e2, e3] kt pt] [] pos) ρ g Q := fun σ H S Q' q' => by
  refine ts_of (pe_callB call_isiT hg hm PyProof.Rows.boot_isinstance (pa_cons pe_s (pa_cons (pe_tup (pa_cons h2 (pa_cons h3 pa_nil he4) he3)) pa_nil he2) he) (by decide) (by decide) he hpl) ?_
  refine h σ H S _ fun v H1 ⟨sv, g1, k1, e1, r1, t, b, ty, hk, q⟩ => ?_
  rw [hK]
  refine ⟨by rw [sizeLine_eq]; show 2 ≤ _; omega, fun tp htp => ?_⟩
  have e2 : Ext g1 H1 g1 (upd H1 tp (.tup [v2, v3])) := Ext.new htp
  have k2 : GOk W (upd H1 tp (.tup [v2, v3])) g1 := k1.new htp
  exact ⟨v, tp, [v2, v3], t, [cv, dv], b, rfl, upd_same, .cons kv (.cons kv3 .nil), ty.x k2 (r1.ext e2), hk, q' _ _ ⟨.d (.bl b), g1, k2, e1.trans e2, rfl, q⟩⟩
end
end DL

/-! sets of texts over the data layer -/
namespace DL
open PySem PySem.Spec PyProof.Rows L2 DLS
section
variable {X : Cx} {W : Wd} {ρ : Rho} {g : G} {Q : QE} {a : Addr} {ks xs : List Str} {k : Str}
theorem reps_strs {H : Hp} : ∀ {xs : List Str} {vs : List V}, Reps W H g (xs.map D.str) vs → vs = xs.map V.str
  | [], _, h => h
  | x :: xs, _, h => by
    obtain ⟨v, r, rfl, h1, h2⟩ := h
    cases (show v = .str x from h1)
    rw [reps_strs h2]; rfl
theorem rep_strs {H : Hp} : ∀ xs : List Str, Reps W H g (xs.map D.str) (xs.map V.str)
  | [] => rfl
  | x :: xs => ⟨.str x, _, rfl, rfl, rep_strs xs⟩
/-- set(xs) -/
theorem rc_setT {sv : SV} (hs : sv = .d (.tup (xs.map D.str)) ∨ sv = .d (.lst (xs.map D.str))) (hl : xs.length + 1 < 4096) (q : ∀ a ks, Once ks xs → g a = none → Q (.ob a) (gset g a (.tset ks))) : RC W (rSetT W.K W.w) [sv] g Q := fun H vs kk rs Q' q' => by
  obtain ⟨v, r, rfl, r1, hr⟩ := rs
  cases (show r = [] from hr)
  have fin : ∀ p, (SqT W.K H p (xs.map V.str) ∨ SqL W.K H p (xs.map V.str)) → rSetT W.K W.w [.ref p] H Q' := fun p hp =>
    ⟨p, xs, rfl, hp, hl, fun a ks on ha => q' _ _ ⟨.ob a, gset g a (.tset ks), kk.newOb (m := .tset ks) ha upd_same, Ext.newOb ha, rfl, q a ks on (kk.free ha)⟩⟩
  rcases hs with rfl | rfl
  · obtain ⟨p, ys, rfl, h1, h2⟩ := r1
    rw [reps_strs h2] at h1
    exact fin p (.inl h1.sq)
  · obtain ⟨p, ys, rfl, h1, h2⟩ := r1
    rw [reps_strs h2] at h1
    exact fin p (.inr h1.sq)
theorem set_mut {H : Hp} {Q' : VK} {ks2 : List Str} (kk : GOk W H g) (ha : g a = some (.tset ks)) (q : Q (.d .non) (gset g a (.tset ks2))) (q' : ∀ v H', PostE W g H Q v H' → Q' v H') : Q' .non (upd H a (SetTO W.w a ks2)) :=
  q' _ _ ⟨.d .non, gset g a (.tset ks2), kk.mut (m' := .tset ks2) ha upd_same, Ext.mut ha, rfl, q⟩
/-- s.add(k) -/
theorem rm_addT (ha : g a = some (.tset ks)) (hl : ks.length + 1 < 4096) (q : ∀ ks2, (if k ∈ ks then ks2 = ks else ks2.Perm (k :: ks)) → Q (.d .non) (gset g a (.tset ks2))) : RM W (rAddT W.w) (.ob a) [.d (.str k)] g Q := fun H vx vs kk rx rs Q' q' => by
  obtain ⟨v, r, rfl, r1, hr⟩ := rs
  cases (show r = [] from hr)
  cases (show v = .str k from r1)
  exact ⟨a, k, ks, rx, rfl, kk a _ ha, hl, fun ks2 p => set_mut kk ha (q ks2 p) q'⟩
/-- s.discard(k) -/
theorem rm_disT (ha : g a = some (.tset ks)) (q : ∀ ks2, ks2.Perm (ks.filter fun j => decide (j ≠ k)) → Q (.d .non) (gset g a (.tset ks2))) : RM W (rDisT W.w) (.ob a) [.d (.str k)] g Q := fun H vx vs kk rx rs Q' q' => by
  obtain ⟨v, r, rfl, r1, hr⟩ := rs
  cases (show r = [] from hr)
  cases (show v = .str k from r1)
  exact ⟨a, k, ks, rx, rfl, kk a _ ha, fun ks2 p => set_mut kk ha (q ks2 p) q'⟩
/-- sorted(s): a tree -/
theorem rc_sortedT (ha : g a = some (.tset ks)) (q : ∀ ms : List Str, ms.Perm ks → sortedS ms = true → Q (.d (.lst (ms.map D.str))) g) : RC W (rSortedT W.w) [.ob a] g Q := fun H vs kk rs Q' q' => by
  obtain ⟨v, r, rfl, r1, hr⟩ := rs
  cases (show r = [] from hr)
  cases (show v = .ref a from r1)
  exact ⟨a, ks, rfl, kk a _ ha, fun ms p pm hs hp => q' _ _ (post_lst kk hp (rep_strs ms) (q ms pm hs))⟩
end
section
variable {X : Cx} {W : Wd} {ρ : Rho} {g : G} {Q : QE} {o e : Expr} {es : List Expr} {apos cpos : Pos} {name : Str} {id : String} {r : V → List V → Hp → VK → Prop}
/-- o.m(e, ..), o a set of texts -/
theorem we_sm (hw : X.w = W.w) (slot : Slot "set" name id) (hty : typeOf (.builtin id) = pure (.type "method_descriptor")) (hm : MtR X id r) (h : WE X W o ρ g fun sv g1 => (∃ a ks, sv = .ob a ∧ g1 a = some (.tset ks)) ∧ WA X W (e :: es) ρ g1 fun svs g2 => RM W r sv svs g2 Q)
    (hbase : attributeBase o name X.env (eval o X.env) = eval o X.env := by rfl)
    (hfew : ((backTo cpos (starEach (e :: es) X.env)).all (fun x => !x.1) && (backToKw cpos (keywordEach [] X.env)).all (fun x => x.1.isSome)
      && decide ((e :: es).length + ([] : List Keyword).length + (if ([] : List Keyword).isEmpty then 0 else 1) < 30)) = true := by rfl)
    (hline : (apos.endLine == cpos.line) = true := by rfl) (hs : starEach (e :: es) X.env = (false, eval e X.env) :: starEach es X.env := by rfl) (hplain : (backTo cpos (starEach es X.env)).any (·.1) = false := by rfl) :
    WE X W (.Call (.Attribute o name apos) (e :: es) [] cpos) ρ g Q := fun σ H S Q' q' => by
  intro pins s I
  refine wpAny_Call_method_late hbase hfew hline rfl (thn ((pe_s (X := X) (e := o)).run pins s σ H (fun v H1 => PostE W g H (fun sv g1 => (∃ a ks, sv = .ob a ∧ g1 a = some (.tset ks)) ∧ WA X W (e :: es) ρ g1 fun svs g2 => RM W r sv svs g2 Q) v H1) I (h σ H S _ fun v H1 z => z)) fun u s1 hh => ?_)
  obtain ⟨v, H1, I1, r1, sv, g1, k1, e1, rr, ⟨a, ks, hsv, ha⟩, h1⟩ := hh
  subst hsv
  cases (show v = .ref a from rr)
  obtain rfl : u = Value.ref a := r1
  have ho : H1 a = some (SetTO X.w a ks) := by rw [hw]; exact k1 a _ ha
  have hS := (setTO_get I1 ho).setOf (P := X.prog)
  refine ⟨"set", id, F.plainAttrs_set, slot, hty, hS.typeIs, hS.noDict, ?_⟩
  have hA := (pa_s (X := X) (es := e :: es)).run cpos pins s1 σ H1 (fun vs H2 => PostA W g1 H1 (fun svs g2 => RM W r (.ob a) svs g2 Q) vs H2) I1 (h1 σ H1 (S.ext k1 e1) _ fun vs H2 z => z)
  rw [hs] at hA ⊢
  refine Calls.callWith_builtin (by
    show (false || (backTo cpos (starEach es X.env)).any (·.1)) = false
    rw [hplain] <;> rfl) (Calls.evalArgs_plain ?_)
  refine thn hA fun us s2 ⟨vs, H2, I2, r2, svs, g2, k2, e2, rs, q2⟩ => ?_
  exact hm pins s2 σ H2 (.ref a) vs (.ref a) us Q' I2 rfl r2 (q2 H2 (.ref a) vs k2 rfl rs Q' fun v H3 z => q' v H3 (z.back (e1.trans e2)))
end
end DL

/-! text methods, all, list over the data layer -/
namespace DL
open PySem PySem.Spec PyProof.Rows L2
/-- x.rpartition(sep) -/
def rpart (a b : Str) : Str × Str × Str := match Builtin.Str.lastOccurrence a b 0 a.length with
  | some i => (Builtin.Str.strSub a 0 i, b, Builtin.Str.strSub a (i + b.length) a.length)
  | none => (Str.empty, Str.empty, a)
theorem mt_rpartition {X : Cx} : MtR X "str.rpartition" (fun x xs H Q => ∃ a b, x = .str a ∧ xs = [.str b] ∧ (b.length == 0) = false ∧ a.length ≤ sizeLine ∧
    ∀ p, H p = none → Q (.ref p) (upd H p (.tup [.str (rpart a b).1, .str (rpart a b).2.1, .str (rpart a b).2.2]))) := by
  intro pins s σ H x xs v us Q I rx rs h
  obtain ⟨a, b, rfl, rfl, hb, hz, h⟩ := h
  obtain ⟨t, rfl⟩ := rx
  cases rs with
  | cons r1 rs =>
    cases rs
    obtain ⟨u, rfl⟩ := r1
    refine call_meets F.slot_str_rpartition (typeIs_str _ _ _) F.entry_str_rpartition (F.args_str_rpartition_2 _ _) (meets_str_rpartition a b t u hb hz) ?_
    unfold rpart at h
    revert h
    cases Builtin.Str.lastOccurrence a b 0 a.length with
    | none => intro h; exact laid_parts I h
    | some i => intro h; exact laid_parts I h
section
variable {X : Cx} {W : Wd} {g : G} {Q : QE} {a b : Str} {xs : List Str}
/-- x.m(sep): three texts -/
theorem rm_part {f : Str → Str → Str × Str × Str} (hb : (b.length == 0) = false) (hz : a.length ≤ sizeLine) (q : Q (.d (.tup [.str (f a b).1, .str (f a b).2.1, .str (f a b).2.2])) g) :
    RM W (fun x xs H Q => ∃ a b, x = V.str a ∧ xs = [V.str b] ∧ (b.length == 0) = false ∧ a.length ≤ sizeLine ∧ ∀ p, H p = none → Q (.ref p) (upd H p (.tup [.str (f a b).1, .str (f a b).2.1, .str (f a b).2.2]))) (.d (.str a)) [.d (.str b)] g Q := fun H vx vs kk rx rs Q' q' => by
  obtain ⟨v, r, rfl, r1, hr⟩ := rs
  cases (show r = [] from hr)
  cases (show v = .str b from r1)
  exact ⟨a, b, rx, rfl, hb, hz, fun p hp => q' _ _ (post_tup kk hp (l := [.str (f a b).1, .str (f a b).2.1, .str (f a b).2.2]) ⟨_, _, rfl, rfl, _, _, rfl, rfl, _, _, rfl, rfl, rfl⟩ q)⟩
/-- x.m(): a truth value -/
theorem rm_is {f : Str → Bool} (q : Q (.d (.bl (f a))) g) : RM W (fun x xs H Q => ∃ a, x = V.str a ∧ xs = [] ∧ True ∧ Q (.bl (f a)) H) (.d (.str a)) [] g Q := fun H vx vs kk rx rs Q' q' => by
  cases (show vs = [] from rs)
  exact ⟨a, rx, rfl, trivial, q' _ _ (post_same (r := .d (.bl (f a))) kk rfl q)⟩
theorem rm_starts (q : Q (.d (.bl (Txt.startswith a b))) g) : RM W (fun x xs H Q => ∃ a b, x = V.str a ∧ xs = [V.str b] ∧ Q (.bl (Txt.startswith a b)) H) (.d (.str a)) [.d (.str b)] g Q := fun H vx vs kk rx rs Q' q' => by
  obtain ⟨v, r, rfl, r1, hr⟩ := rs
  cases (show r = [] from hr)
  cases (show v = .str b from r1)
  exact ⟨a, b, rx, rfl, q' _ _ (post_same (r := .d (.bl _)) kk rfl q)⟩
theorem rm_split (hb : (b.length == 0) = false) (hz : a.length + 2 ≤ sizeLine) (q : Q (.d (.lst ((Txt.split a b).map D.str))) g) : RM W (fun x xs H Q => ∃ a b, x = V.str a ∧ xs = [V.str b] ∧ (b.length == 0) = false ∧ a.length + 2 ≤ sizeLine ∧ rNewStrs (Txt.split a b) H Q) (.d (.str a)) [.d (.str b)] g Q := fun H vx vs kk rx rs Q' q' => by
  obtain ⟨v, r, rfl, r1, hr⟩ := rs
  cases (show r = [] from hr)
  cases (show v = .str b from r1)
  exact ⟨a, b, rx, rfl, hb, hz, fun p hp => q' _ _ (post_lst kk hp (rep_strs _) q)⟩
theorem bls_of {H : Hp} : ∀ {bs : List Bool} {vs : List V}, Reps W H g (bs.map D.bl) vs → vs = bs.map V.bl
  | [], _, h => h
  | x :: xs, _, h => by
    obtain ⟨v, r, rfl, h1, h2⟩ := h
    cases (show v = .bl x from h1)
    rw [bls_of h2]; rfl
/-- all(l), l a list of truth values -/
theorem rc_all {bs : List Bool} (q : Q (.d (.bl (bs.all id))) g) : RC W (rAll W.K) [.d (.lst (bs.map D.bl))] g Q := fun H vs kk rs Q' q' => by
  obtain ⟨v, r, rfl, r1, hr⟩ := rs
  cases (show r = [] from hr)
  obtain ⟨p, ys, rfl, h1, h2⟩ := r1
  rw [bls_of h2] at h1
  exact ⟨p, bs, rfl, h1.sq, q' _ _ (post_same (r := .d (.bl _)) kk rfl q)⟩
/-- list(l): a new list that may change -/
theorem rc_list {sv : SV} {l : List SV} (hs : SeqOf g sv l) (q : ∀ p, g p = none → Q (.ob p) (gset g p (.lst l))) : RC W (fun xs H Q => ∃ p ys, xs = [.ref p] ∧ (SqL W.K H p ys ∨ SqT W.K H p ys) ∧ ∀ l, H l = none → Q (.ref l) (upd H l (.lst ys))) [sv] g Q := fun H vs kk rs Q' q' => by
  obtain ⟨v, r, rfl, r1, hr⟩ := rs
  cases (show r = [] from hr)
  obtain ⟨a, ys, rfl, h1, h2⟩ := hs.v kk r1
  exact ⟨a, ys, rfl, h1, fun p hp => q' _ _ (post_ob kk hp h2 (q p (kk.free hp)))⟩
/-- sep.join(texts) -/
theorem rm_join {sv : SV} (hs : sv = .d (.lst (xs.map D.str)) ∨ sv = .d (.tup (xs.map D.str))) (hz : (xs.map (·.length)).sum + xs.length * a.length ≤ 16777216) (q : Q (.d (.str (Txt.join a xs))) g) :
    RM W (fun x vs H Q => ∃ a p, ∃ ys : List Str, x = V.str a ∧ vs = [V.ref p] ∧ (SqL W.K H p (ys.map V.str) ∨ SqT W.K H p (ys.map V.str)) ∧ (ys.map (·.length)).sum + ys.length * a.length ≤ 16777216 ∧ Q (.str (Txt.join a ys)) H) (.d (.str a)) [sv] g Q := fun H vx vs kk rx rs Q' q' => by
  obtain ⟨v, r, rfl, r1, hr⟩ := rs
  cases (show r = [] from hr)
  rcases hs with rfl | rfl
  · obtain ⟨p, ys, rfl, h1, h2⟩ := r1
    rw [reps_strs h2] at h1
    exact ⟨a, p, xs, rx, rfl, .inl h1.sq, hz, q' _ _ (post_same (r := .d (.str _)) kk rfl q)⟩
  · obtain ⟨p, ys, rfl, h1, h2⟩ := r1
    rw [reps_strs h2] at h1
    exact ⟨a, p, xs, rx, rfl, .inr h1.sq, hz, q' _ _ (post_same (r := .d (.str _)) kk rfl q)⟩
end
end DL

/-! {name for row in rows for name in f(row)} over the data layer: rows a tuple of trees, f(row) a new list of texts -/
namespace DL
open PySem PySem.Spec PyProof.Rows L2
theorem tts_nil {X : Cx} {scope : Scope} {σ : L2.St} {H : Hp} {Q : Bool → Hp → Prop} (h : Q true H) : tTs X scope [] σ H Q := h
section
variable {X : Cx} {W : Wd} {ρ : Rho} {g : G} {Q : QE} {pos : Pos} {elt tg iter tg1 iter1 : Expr} {scope : Scope} {own : List (Str × Nat)} {j0 j1 : Nat}
theorem we_sc2 (f : D → List Str) (hw : X.w = W.w) (hc : X.calm = true) (hN : X.N.Nodup) (hK : X.K = W.K) (ok : BlkOk X.N X.env.scope scope own) (hg : Blk X scope fun Y => PG Y tg (gName j0)) (hg1 : Blk X scope fun Y => PG Y tg1 (gName j1)) (hj0 : j0 ∈ own.map (·.2)) (hj1 : j1 ∈ own.map (·.2))
    (h : WE X W iter ρ g fun sv g1 => ∃ l : List D, sv = .d (.tup l) ∧ (l.flatMap f).length + 1 < 4096 ∧
      (∀ row ∈ l, ∀ g2, Blk X scope fun Y => WE Y W iter1 ((wipeD ρ (own.map (·.2))).set j0 (some (.d row))) g2 fun s3 g3 => g3 = g2 ∧ s3 = .d (.lst ((f row).map D.str))) ∧
      (∀ row ∈ l, ∀ k g2, Blk X scope fun Y => WE Y W elt ((wipeD ((wipeD ρ (own.map (·.2))).set j0 (some (.d row))) [j1]).set j1 (some (.d (.str k)))) g2 fun s3 g3 => g3 = g2 ∧ s3 = .d (.str k)) ∧
      ∀ a ks, g1 a = none → DLS.Once ks (l.flatMap f) → Q (.ob a) (gset g1 a (.tset ks)))
    (hs : ∀ x, foldedSetIterable iter X.env x = pure x := by intro _; rfl) (hs1 : ∀ env x, foldedSetIterable iter1 env x = pure x := by intro _ _; rfl) :
    WE X W (.SetComp elt [⟨tg, iter, [], 0⟩, ⟨tg1, iter1, [], 0⟩] scope pos) ρ g Q := fun σ H S Q' q' => by
  have inner1 : Blk X scope fun Y => PI Y tg1 iter1 (iList X.K (tEl X scope iter1)) := fun s H C cl fp => pi_list (pe_el s H C cl fp)
  refine ts_of (DLS.pe_sc2 (vs1 := [j1]) hc hN (pi_tup pe_s) ok (fun i hi => by rw [List.mem_singleton.mp hi]; exact hj1) hg (pts_s (ifs := [])) inner1 hg1 (pts_s (ifs := [])) pe_el hs hs1) ?_
  refine h σ H S _ fun v H1 ⟨sv, g1, k1, e1, r1, l, hl, hb, inner, elem, done⟩ => ?_
  subst hl
  obtain ⟨a, xs, rfl, h1, h2⟩ := r1
  refine ⟨a, rfl, ⟨xs, by rw [hK]; exact h1.sq⟩, fun D hD => ?_⟩
  have g1D : g1 D = none := k1.free hD
  let PS : Nat → Hp → Prop := fun i H' => ∃ ks, GOk W H' (gset g1 D (.tset ks)) ∧ Ext g1 H1 (gset g1 D (.tset ks)) H' ∧ DLS.Once ks ((l.take i).flatMap f)
  have start : PS 0 (upd H1 D (DLS.SetTO X.w D [])) := by
    rw [hw]
    exact ⟨[], k1.newOb (m := .tset []) hD upd_same, Ext.newOb hD, DLS.once_nil⟩
  refine ⟨fun i m H' => m = xs.length - i ∧ i ≤ xs.length ∧ PS i H', ⟨xs.length, by simp, Nat.zero_le _, start⟩, ?_⟩
  rintro i m H2 ⟨rfl, hi, ks, kk, ex, on⟩
  have q : SqT X.K H2 a xs := by rw [hK]; exact (h1.ext ex).sq
  by_cases hlt : i < xs.length
  · refine .inr ⟨⟨xs, xs[i], q, by simp [hlt]⟩, PS (i + 1), fun H' p => ⟨xs.length - (i + 1), by omega, rfl, hlt, p⟩, fun x H' y => ?_⟩
    obtain ⟨e, y⟩ := y
    subst e
    obtain ⟨row, hrow, rrow⟩ := h2.got (y xs q)
    have mrow : row ∈ l := List.mem_of_getElem? hrow
    have tk : (l.take (i + 1)).flatMap f = (l.take i).flatMap f ++ f row := by
      rw [List.take_add_one, hrow]
      simp
    have all : l.flatMap f = (l.take i).flatMap f ++ f row ++ (l.drop (i + 1)).flatMap f := by
      rw [← tk, ← List.flatMap_append, List.take_append_drop]
    have S1 := S.ext k1 e1
    have S2 : Sim W ((wipeD ρ (own.map (·.2))).set j0 (some (.d row))) (gset g1 D (.tset ks)) ((L2.wipe σ (own.map (·.2))).set j0 (some x)) H' := ((S1.ext kk ex).wipe _).set (sv := .d row) j0 (Rep.ext ex row x rrow)
    refine ⟨wipe_set hj0, ?_⟩
    refine tts_nil ?_
    rw [if_pos rfl]
    intro s' Hs C cl fp
    refine inner row mrow _ s' Hs C cl fp _ H' S2 _ fun v3 H3 ⟨s3, g3, k3, e3, r3, hg3, hs3⟩ => ?_
    subst hg3 hs3
    obtain ⟨b, ys, rfl, hb1, hb2⟩ := r3
    have hys := reps_strs hb2
    refine ⟨b, rfl, ⟨ys, by rw [hK]; exact hb1.sq⟩, ?_⟩
    let P1 : Nat → Hp → Prop := fun j H' => ∃ ks4, GOk W H' (gset g1 D (.tset ks4)) ∧ Ext (gset g1 D (.tset ks)) H3 (gset g1 D (.tset ks4)) H' ∧ DLS.Once ks4 ((l.take i).flatMap f ++ (f row).take j)
    refine ⟨fun j k H' => k = ys.length - j ∧ j ≤ ys.length ∧ P1 j H', ⟨ys.length, by simp, Nat.zero_le _, ks, k3, Ext.refl _ _, by simpa using on⟩, ?_⟩
    rintro j k H4 ⟨rfl, hj, ks4, k4, e4, on4⟩
    have q4 : SqL X.K H4 b ys := by rw [hK]; exact (hb1.ext e4).sq
    by_cases lt4 : j < ys.length
    · refine .inr ⟨⟨ys, ys[j], q4, by simp [lt4]⟩, P1 (j + 1), fun H5 p => ⟨ys.length - (j + 1), by omega, rfl, lt4, p⟩, fun x5 H5 y5 => ?_⟩
      obtain ⟨e5, y5⟩ := y5
      subst e5
      have hx5 := y5 ys q4
      rw [hys, List.getElem?_map] at hx5
      obtain ⟨kx, hkx, rfl⟩ : ∃ kx, (f row)[j]? = some kx ∧ x5 = V.str kx := by
        cases e : (f row)[j]? with
        | none => rw [e] at hx5; cases hx5
        | some kx => rw [e] at hx5; exact ⟨kx, rfl, (Option.some.inj hx5).symm⟩
      refine ⟨wipe_set (List.mem_singleton.mpr rfl), ?_⟩
      refine tts_nil ?_
      rw [if_pos rfl]
      have S5 := (((S2.ext k3 e3).ext k4 e4).wipe [j1]).set (sv := .d (.str kx)) (v := V.str kx) j1 rfl
      intro s5 Hs5 C5 cl5 fp5
      refine elem row mrow kx _ s5 Hs5 C5 cl5 fp5 _ H5 S5 _ fun v7 H7 ⟨s7, g7, k7, e7, r7, hg7, hs7⟩ => ?_
      subst hg7 hs7
      cases (show v7 = V.str kx from r7)
      have t4 : (f row).take (j + 1) = (f row).take j ++ [kx] := by
        rw [List.take_add_one, hkx]; rfl
      refine ⟨kx, ks4, rfl, by rw [hw]; exact k7 D _ gset_same, ?_, fun ks2 p => ?_⟩
      · have z := on4.2.1
        rw [all, List.length_append, List.length_append] at hb
        rw [List.length_append, List.length_take] at z
        show ks4.length + 1 < 4096
        omega
      · have em : Ext (gset g1 D (.tset ks4)) H7 (gset (gset g1 D (.tset ks4)) D (.tset ks2)) (upd H7 D (DLS.SetTO W.w D ks2)) := Ext.mut gset_same
        have km : GOk W (upd H7 D (DLS.SetTO W.w D ks2)) (gset (gset g1 D (.tset ks4)) D (.tset ks2)) := k7.mut (m' := .tset ks2) gset_same upd_same
        rw [gset_gset] at em km
        rw [hw]
        refine ⟨ks2, km, (e4.trans e7).trans em, ?_⟩
        rw [t4, ← List.append_assoc]
        exact DLS.once_snoc on4 p
    · have ej : j = ys.length := by omega
      refine .inl ⟨⟨ys, q4, by omega⟩, ks4, k4, (ex.trans e3).trans e4, ?_⟩
      rw [tk]
      have t5 : (f row).take j = f row := List.take_of_length_le (by rw [ej, hys, List.length_map]; exact Nat.le_refl _)
      rw [t5] at on4
      exact on4
  · have ei : i = xs.length := by omega
    refine .inl ⟨⟨xs, q, by omega⟩, ?_⟩
    have t6 : l.take i = l := List.take_of_length_le (by rw [ei, h2.length]; exact Nat.le_refl _)
    rw [t6] at on
    exact q' _ _ ⟨.ob D, gset g1 D (.tset ks), kk, e1.trans ex, rfl, done D ks g1D on⟩
end
end DL

/-! a small machine over trees and things that may change: terms, and what they do -/
namespace EV
open PySem PySem.Spec PyProof.Rows L2 DL

/-- the store: things that may change, by their number -/
abbrev MS := List (Option MO)
abbrev R := Option (SV × MS)
inductive BOp | add | sub | mul | fdiv | mod | pow
inductive COp | eq | ne | lt | le | gt | ge | isin | nin | isN | notN
  deriving DecidableEq
/-- built-ins by name -/
inductive Bi | len | abs | int | str | tuple | list | set | sorted | all | any | min | max | repr | listT
/-- methods of built-in types -/
inductive Bm | append | pop | popAt | join | split | part | rpart | starts | isascii | isalpha | islower | isdecimal | add | discard | index | insert | extend | count | rmprefix | replace
/-- types that isinstance is asked of -/
inductive Ty | non | bl | int | str | lst | tup | cls (c : Nat)
  deriving DecidableEq
/-- bodies of a comprehension over a dict's keys -/
inductive IDb
  | cmpK (op : COp) (i : Nat)
  | cmpV (op : COp) (i : Nat)
  | and (a b : IDb)
inductive ITg
  | nm (i : Nat) | tp (is : List Nat)
  /-- a, (b, c) -/
  | nst (i : Nat) (is : List Nat)
mutual
inductive IE
  | var (i : Nat)
  | cst (d : D)
  | bin (op : BOp) (a b : IE)
  | neg (a : IE)
  | not (a : IE)
  | and (a b : IE)
  | or (a b : IE)
  | ife (t : IT) (a b : IE)
  | cmp (op : COp) (a b : IE)
  | cmp2 (o1 o2 : COp) (a b c : IE)
  | eqm (m : List (Nat × Nat)) (ng : Bool) (a b : IE)
  | lst (ob : Bool) (as : IAs)
  | tup (as : IAs)
  | ix (a b : IE)
  | slc (a : IE) (lo hi : IO)
  | rev (a : IE)
  | fld (cs : List Nat) (f : Str) (a : IE)
  | call (f : Nat) (dv : List D) (sh : Bool) (as : IAs)
  | make (c : Nat) (f : Nat) (dv : List D) (sh : Bool) (as : IAs)
  | meth (nm : Str) (m : List (Nat × Nat)) (dv : List D) (sh : Bool) (o : IE) (as : IAs)
  | bi (f : Bi) (as : IAs)
  | isi (cs : List Nat) (a : IE) (ts : List Ty)
  | bm (m : Bm) (o : IE) (as : IAs)
  | lc (ob : Bool) (vs : List Nat) (tg : ITg) (it : II) (c : IT) (e : IE)
  | cmeth (c f : Nat) (dv : List D) (sh : Bool) (o : IE) (as : IAs)
  | makeL (i : Nat) (tb : List (Nat × Nat)) (dv : List D) (sh : Bool) (as : IAs)
  | frz (a : IE)
  | dnew
  | dget (a b : IE)
  | din (ng : Bool) (a b : IE)
  | lcD (vs : List Nat) (j : Nat) (cs : List Nat) (f : Str) (o : Nat) (b : IDb)
  | sc2 (vs : List Nat) (i : Nat) (it : IE) (j : Nat) (it2 : IE) (e : IE)
  | prop (m : List (Nat × Nat)) (sh : Bool) (a : IE)
  | lenm (m : List (Nat × Nat)) (sh : Bool) (a : IE)
  | strm (m : List (Nat × Nat)) (sh : Bool) (a : IE)
  | tupS (a : IE) (as : IAs)
  | fstr (s : Str) (a : IE)
  | kcall (f : Nat) (src : List (Nat ⊕ Nat)) (dv : List D) (sh : Bool) (as : IAs)
  | kmake (c : Nat) (f : Nat) (src : List (Nat ⊕ Nat)) (dv : List D) (sh : Bool) (as : IAs)
  | ddisp2 (k1 k2 : Str) (a b : IE)
  | nsNew
  | nsIn (ng : Bool) (a b : IE)
  | nsAdd (a b : IE)
  | kmeth (nm : Str) (m : List (Nat × Nat)) (src : List (Nat ⊕ Nat)) (dv : List D) (sh : Bool) (o : IE) (as : IAs)
inductive IT
  | tt
  | val (e : IE)
  | not (t : IT)
  | and (t u : IT)
  | or (t u : IT)
inductive IO
  | no
  | at (e : IE)
inductive IAs
  | nil
  | cons (a : IE) (as : IAs)
inductive II
  | seq (e : IE)
  | rng (a : IE)
  | rng2 (a b : IE)
  | enum (s : Int) (e : IE)
  | zip (a b : IE)
end
/-- targets: a name, a field of the thing in a slot -/
inductive ISg
  | nm (i : Nat) | at (cs : List Nat) (o : Nat) (f : Str)
mutual
inductive IS
  | set (i : Nat) (e : IE)
  | unp (is : List Nat) (e : IE)
  | unpA (tg : List ISg) (e : IE)
  | unpS (i j : Nat) (e : IE)
  | dput (o i e : IE)
  | par (i j : Nat) (a b : IE)
  | fldS (cs : List Nat) (o : IE) (f : Str) (e : IE)
  | subS (o i e : IE)
  | aug (i : Nat) (op : BOp) (e : IE)
  | fldA (cs : List Nat) (o : IE) (f : Str) (op : BOp) (e : IE)
  | expr (e : IE)
  | ret (e : IE)
  | retN
  | ife (t : IT) (a b : IBs)
  | whl (t : IT) (b : IBs)
  | forr (tg : ITg) (it : II) (b : IBs)
  | brk | cnt | pass | dead
  | tryy (b : IBs)
inductive IBs
  | nil
  | cons (s : IS) (b : IBs)
end

/-! ### values -/
def obj (M : MS) (i : Nat) : Option MO := match M[i]? with
  | some (some o) => some o
  | _ => none
def put (M : MS) (i : Nat) (o : MO) : MS := M.set i (some o)
def new (M : MS) (o : MO) : R := some (.ob M.length, M ++ [some o])
def ret (d : D) (M : MS) : R := some (.d d, M)
def allD : List SV → Option (List D)
  | [] => some []
  | .d x :: l => (allD l).map (x :: ·)
  | .ob _ :: _ => none
def lstOf (M : MS) : SV → Option (List SV)
  | .d (.lst l) => some (l.map SV.d)
  | .d (.fl l) => some (l.map SV.d)
  | .ob i => match obj M i with
    | some (.lst l) => some l
    | _ => none
  | _ => none
def seqOf (M : MS) : SV → Option (List SV)
  | .d (.tup l) => some (l.map SV.d)
  | v => lstOf M v
/-- a list of trees -/
def treesOf (M : MS) (v : SV) : Option (List D) := (seqOf M v).bind allD
def strD : D → Option Str
  | .str s => some s
  | _ => none
def strsOf (M : MS) (v : SV) : Option (List Str) := (treesOf M v).bind fun l => l.mapM strD
def blD : D → Option Bool
  | .bl s => some s
  | _ => none
def blsOf (M : MS) (v : SV) : Option (List Bool) := (treesOf M v).bind fun l => l.mapM blD
def tru (M : MS) : SV → Option Bool
  | .d .non => some false
  | .d (.bl b) => some b
  | .d (.int i) => some (i != 0)
  | .d (.str s) => if s.length ≤ 16777216 then some ((s.length : Int) != 0) else none
  | .d (.lst l) => some (!l.isEmpty)
  | .d (.tup l) => some (!l.isEmpty)
  | .d (.fl l) => some (!l.isEmpty)
  | .ob i => match obj M i with
    | some (.lst l) => some (!l.isEmpty)
    | _ => none
  | _ => none
/-- data behind things that may change -/
def pyS (M : MS) : Nat → SV → Option PyData
  | _, .d x => toPy x
  | 0, .ob _ => none
  | n + 1, .ob i => match obj M i with
    | some (.lst l) => (l.mapM (pyS M n)).map .list
    | _ => none

/-! ### operations -/
def small (i : Int) : Bool := decide (-18446744073709551616 < i ∧ i < 18446744073709551616)
def evBin (op : BOp) (M : MS) (x y : SV) : R := match op, x, y with
  | .add, .d (.int i), .d (.int j) => ret (.int (i + j)) M
  | .add, .d (.str a), .d (.str b) => if a.length + b.length ≤ 16777216 then ret (.str (a ++ b)) M else none
  | .add, .d (.tup l), .d (.tup m) => if l.length + m.length ≤ 16777216 then ret (.tup (l ++ m)) M else none
  | .add, .d (.lst l), .d (.lst m) => if l.length + m.length ≤ 16777216 then ret (.lst (l ++ m)) M else none
  | .add, .ob a, .ob b => match obj M a, obj M b with
    | some (.lst l), some (.lst m) => if l.length + m.length ≤ 16777216 then new M (.lst (l ++ m)) else none
    | _, _ => none
  | .add, .ob a, .d (.lst m) => match obj M a with
    | some (.lst l) => if l.length + m.length ≤ 16777216 then new M (.lst (l ++ m.map SV.d)) else none
    | _ => none
  | .sub, .d (.int i), .d (.int j) => ret (.int (i - j)) M
  | .mul, .d (.int i), .d (.int j) => if small i || small j then ret (.int (i * j)) M else none
  | .fdiv, .d (.int i), .d (.int j) => if 0 < j ∧ j < 1073741824 then ret (.int (i / j)) M else none
  | .mod, .d (.int i), .d (.int j) => if 0 < j then ret (.int (i % j)) M else none
  | .mul, .d (.lst l), .d (.int j) => if 0 ≤ j ∧ j ≤ 1000 ∧ l.length ≤ 1000 then ret (.lst (List.replicate j.toNat l).flatten) M else none
  | .mul, .d (.tup l), .d (.int j) => if 2 ≤ j ∧ j ≤ 1000 ∧ l.length ≤ 1000 ∧ l.isEmpty = false then ret (.tup (List.replicate j.toNat l).flatten) M else none
  | .pow, .d (.int i), .d (.int j) => if 0 ≤ j ∧ j ≤ 1000000 ∧ i.natAbs < 18446744073709551616 then ret (.int (i ^ j.toNat)) M else none
  | _, _, _ => none
def eqSV (M : MS) (x y : SV) : Option Bool := match x, y with
  | .d (.int i), .d (.int j) => some (decide (i = j))
  | .d (.str i), .d (.str j) => some (decide (i = j))
  | .d (.bl i), .d (.bl j) => some (decide (i = j))
  | x, y => match pyS M 4 x, pyS M 4 y with
    | some p, some q => if SeqAt.shaped p && SeqAt.shaped q then some (PyData.eqv p q) else none
    | _, _ => none
def leStr (a b : Str) : Bool := !ltCps b.cps.toList a.cps.toList
def flatS : SV → Option V
  | .d x => flatD x
  | _ => none
def inSV (M : MS) (x s : SV) : Option Bool := match x, s with
  | .d (.str k), .d (.str z) => some (!(Builtin.Str.occurrences z k 0 z.length 1).isEmpty)
  | x, s => match flatS x, (treesOf M s).bind fun l => l.mapM flatD with
    | some u, some us => some (inV u us)
    | _, _ => match pyS M 4 x, pyS M 4 s with
      | some p, some (.list qs) => if SeqAt.shaped p && SeqAt.shaped (.list qs) then some (qs.any fun q => PyData.eqv q p) else none
      | _, _ => none
def evCmp (op : COp) (M : MS) (x y : SV) : Option Bool := match op, x, y with
  | .eq, x, y => eqSV M x y
  | .ne, x, y => (eqSV M x y).map (!·)
  | .lt, .d (.int i), .d (.int j) => some (decide (i < j))
  | .le, .d (.int i), .d (.int j) => some (decide (i ≤ j))
  | .gt, .d (.int i), .d (.int j) => some (decide (i > j))
  | .ge, .d (.int i), .d (.int j) => some (decide (i ≥ j))
  | .lt, .d (.str i), .d (.str j) => some (!leStr j i)
  | .le, .d (.str i), .d (.str j) => some (leStr i j)
  | .gt, .d (.str i), .d (.str j) => some (!leStr i j)
  | .ge, .d (.str i), .d (.str j) => some (leStr j i)
  | .isin, x, y => inSV M x y
  | .nin, x, y => (inSV M x y).map (!·)
  | .isN, .d .non, .d .non => some true
  | .isN, _, .d .non => some false
  | .isN, .d (.bl i), .d (.bl j) => some (decide (i = j))
  | .notN, .d (.bl i), .d (.bl j) => some (!decide (i = j))
  | .notN, .d .non, .d .non => some false
  | .notN, _, .d .non => some true
  | _, _, _ => none
def evIx (M : MS) (x y : SV) : R := match x, y with
  | .d (.tup l), .d (.int i) => (atI l i).bind fun d => ret d M
  | .d (.str z), .d (.int i) => if z.length ≤ 16777216 then (atI z.cps.toList i).bind fun c => ret (.str ⟨#[c]⟩) M else none
  | x, .d (.int i) => (lstOf M x).bind fun l => (atI l i).map fun v => (v, M)
  | _, _ => none
def evSlc (M : MS) (x : SV) (i j : Option Int) : R := match x with
  | .d (.tup l) => ret (.tup (cutL l i j)) M
  | .d (.str z) => if z.length ≤ 16777216 then ret (.str (cutS z i j)) M else none
  | x => ((lstOf M x).bind allD).bind fun l => ret (.lst (cutL l i j)) M
/-- texts in order -/
def insS (a : Str) : List Str → List Str
  | [] => [a]
  | b :: l => if leStr a b then a :: b :: l else b :: insS a l

def sortS : List Str → List Str
  | [] => []
  | a :: l => insS a (sortS l)
def onceS : List Str → List Str
  | [] => []
  | a :: l => if a ∈ l then onceS l else a :: onceS l
def evBi (f : Bi) (M : MS) (xs : List SV) : R := match f, xs with
  | .len, [.d (.str s)] => if s.length ≤ 16777216 then ret (.int s.length) M else none
  | .len, [.ob i] => match obj M i with
    | some (.lst l) => ret (.int l.length) M
    | _ => none
  | .len, [v] => (seqOf M v).bind fun l => ret (.int l.length) M
  | .abs, [.d (.int i)] => ret (.int (if i < 0 then -i else i)) M
  | .int, [.d (.int i)] => ret (.int i) M
  | .int, [.d (.str s)] => if s.length ≤ 640 then (PySem.intText? s).bind fun n => ret (.int n) M else none
  | .str, [.d (.int i)] => if i.natAbs.log2 < 1920 then ret (.str (toString i)) M else none
  | .tuple, [.d (.tup l)] => ret (.tup l) M
  | .tuple, [v] => ((lstOf M v).bind allD).bind fun l => ret (.tup l) M
  | .list, [v] => (seqOf M v).bind fun l => new M (.lst l)
  | .set, [v] => (strsOf M v).bind fun l => if l.length + 1 < 4096 then new M (.tset (onceS l)) else none
  | .sorted, [.ob i] => match obj M i with
    | some (.tset ks) => ret (.lst ((sortS ks).map D.str)) M
    | some (.lst _) => (strsOf M (.ob i)).bind fun l => if l.length < 64 then ret (.lst ((sortS l).map D.str)) M else none
    | _ => none
  | .sorted, [.d (.lst l)] => (l.mapM strD).bind fun l => if l.length < 64 then ret (.lst ((sortS l).map D.str)) M else none
  | .sorted, [.d (.tup l)] => (l.mapM strD).bind fun l => if l.length < 64 then ret (.lst ((sortS l).map D.str)) M else none
  | .all, [v] => (lstOf M v).bind fun _ => (blsOf M v).bind fun l => ret (.bl (l.all id)) M
  | .any, [v] => (lstOf M v).bind fun _ => (blsOf M v).bind fun l => ret (.bl (l.any id)) M
  | .max, [.d (.int i), .d (.int j)] => ret (.int (if j > i then j else i)) M
  | .min, [.d (.int i), .d (.int j)] => ret (.int (if j < i then j else i)) M
  | .repr, [.d (.bl b)] => ret (.str (if b = true then "True" else "False")) M
  | .listT, [v] => ((seqOf M v).bind allD).bind fun l => ret (.lst l) M
  | _, _ => none
def evBm (m : Bm) (M : MS) (o : SV) (xs : List SV) : R := match m, o, xs with
  | .append, .ob i, [v] => match obj M i with
    | some (.lst l) => if l.length < 100000 then some (.d .non, put M i (.lst (l ++ [v]))) else none
    | _ => none
  | .pop, .ob i, [] => match obj M i with
    | some (.lst l) => l[l.length - 1]?.map fun v => (v, put M i (.lst l.dropLast))
    | _ => none
  | .popAt, .ob i, [.d (.int z)] => match obj M i with
    | some (.lst l) => if -9223372036854775808 ≤ z ∧ z < 9223372036854775808 then (seqIndex? z l.length).bind fun j => l[j]?.map fun v => (v, put M i (.lst (l.eraseIdx j))) else none
    | _ => none
  | .join, .d (.str a), [v] => (strsOf M v).bind fun ys => if (ys.map (·.length)).sum + ys.length * a.length ≤ 16777216 then ret (.str (Txt.join a ys)) M else none
  | .split, .d (.str a), [.d (.str b)] => if 0 < b.length ∧ a.length + 2 ≤ 16777216 then ret (.lst ((Txt.split a b).map D.str)) M else none
  | .part, .d (.str a), [.d (.str b)] => if 0 < b.length ∧ a.length ≤ 16777216 then ret (.tup [.str (Txt.partition a b).1, .str (Txt.partition a b).2.1, .str (Txt.partition a b).2.2]) M else none
  | .rpart, .d (.str a), [.d (.str b)] => if 0 < b.length ∧ a.length ≤ 16777216 then ret (.tup [.str (rpart a b).1, .str (rpart a b).2.1, .str (rpart a b).2.2]) M else none
  | .starts, .d (.str a), [.d (.str b)] => ret (.bl (Txt.startswith a b)) M
  | .isascii, .d (.str a), [] => ret (.bl (Txt.isascii a)) M
  | .isalpha, .d (.str a), [] => ret (.bl (Txt.isalpha a)) M
  | .islower, .d (.str a), [] => ret (.bl (Txt.islower a)) M
  | .isdecimal, .d (.str a), [] => ret (.bl (Txt.isdecimal a)) M
  | .add, .ob i, [.d (.str k)] => match obj M i with
    | some (.tset ks) => if ks.length + 1 < 4096 then some (.d .non, put M i (.tset (if k ∈ ks then ks else k :: ks))) else none
    | _ => none
  | .discard, .ob i, [.d (.str k)] => match obj M i with
    | some (.tset ks) => some (.d .non, put M i (.tset (ks.filter (fun j => decide (j ≠ k)))))
    | _ => none
  | .extend, .ob i, [v] => match obj M i with
    | some (.lst l) => match v with
      | .d (.lst m) => if l.length + m.length < 100000 then some (.d .non, put M i (.lst (l ++ m.map SV.d))) else none
      | _ => none
    | _ => none
  | .rmprefix, .d (.str a), [.d (.str b)] => if a.length ≤ 16777216 then ret (.str (Txt.removeprefix a b)) M else none
  | .index, v, [.d x] => (lstOf M v).bind fun l => (allD l).bind fun l => match toPy x, toPys l with
    | some p, some qs => if SeqAt.shaped p && SeqAt.shaped (.list qs) then (qs.findIdx? fun q => PyData.eqv q p).bind fun i => ret (.int i) M else none
    | _, _ => none
  | _, _, _ => none
/-- a text or a number, as text -/
def fmtS : SV → Option Str
  | .d (.str y) => if y.length ≤ 16777216 then some y else none
  | .d (.int i) => if i.natAbs.log2 < 1920 then some (toString i) else none
  | _ => none
/-- arguments in the parameters' order: the i-th that is written, the j-th default -/
def arr {α : Type} (src : List (Nat ⊕ Nat)) (xs ds : List α) : List α := src.filterMap fun
  | .inl i => xs[i]?
  | .inr j => ds[j]?
def appA : IAs → IAs → IAs
  | .nil, b => b
  | .cons a as, b => .cons a (appA as b)
/-- of which type's methods it is: 0 a list's, 1 a text's, 2 a set's -/
def bmK : Bm → Nat
  | .append | .pop | .popAt | .index | .insert | .extend => 0
  | .add | .discard => 2
  | _ => 1
def bmOk (m : Bm) (M : MS) (o : SV) : Bool := match bmK m, o with
  | 0, .d (.lst _) => true
  | 0, .ob i => match obj M i with
    | some (.lst _) => true
    | _ => false
  | 1, .d (.str _) => true
  | 2, .ob i => match obj M i with
    | some (.tset _) => true
    | _ => false
  | _, _ => false
def tyOf (M : MS) : SV → Option Ty
  | .d .non => some .non
  | .d (.bl _) => some .bl
  | .d (.int _) => some .int
  | .d (.str _) => some .str
  | .d (.lst _) => some .lst
  | .d (.fl _) => some .lst
  | .d (.tup _) => some .tup
  | .d (.ins c _) => some (.cls c)
  | .d (.cls _) => none
  | .ob i => match obj M i with
    | some (.lst _) => some .lst
    | some (.ins c _) => some (.cls c)
    | _ => none
/-- t is a kind of u -/
def sub1 (t u : Ty) : Bool := decide (t = u) || (decide (t = .bl) && decide (u = .int))
def tyK (cs : List Nat) : Ty → Bool
  | .cls c => cs.contains c
  | _ => true
def fldOf (M : MS) (f : Str) : SV → Option SV
  | .d (.ins _ fs) => (fs.lookup f).map SV.d
  | .ob i => match obj M i with
    | some (.ins _ fs) => fs.lookup f
    | _ => none
  | _ => none
/-- things that may change taken for trees -/
def frz (M : MS) : Nat → SV → Option D
  | _, .d x => some x
  | 0, .ob _ => none
  | n + 1, .ob i => match obj M i with
    | some (.lst l) => (l.mapM (frz M n)).map .lst
    | some (.ins c fs) => (fs.mapM fun p => (frz M n p.2).map fun d => (p.1, d)).map (.ins c)
    | _ => none

/-! ### dicts -/
def keyD : SV → Option Key
  | .d (.int i) => some (.inl i)
  | .d (.str s) => some (.inr s)
  | _ => none
def kD : Key → D
  | .inl i => .int i
  | .inr s => .str s
def valS (kvs : List (Key × SV)) (k : Key) : Option SV := (kvs.find? fun kv => decide (kv.1 = k)).map (·.2)
def putK2 (kvs : List (Key × SV)) (k : Key) (v : SV) : List (Key × SV) :=
  if (kvs.any fun kv => decide (kv.1 = k)) then kvs.map (fun kv => if kv.1 = k then (kv.1, v) else kv) else kvs ++ [(k, v)]
def dctOf (M : MS) : SV → Option (List (Key × SV))
  | .ob i => match obj M i with
    | some (.dct kvs) => some kvs
    | some (.dctL kvs) => some kvs
    | _ => none
  | _ => none
def cmpI : COp → Int → Int → Option Bool
  | .lt, i, j => some (decide (i < j))
  | .le, i, j => some (decide (i ≤ j))
  | .gt, i, j => some (decide (j < i))
  | .ge, i, j => some (decide (j ≤ i))
  | _, _, _ => none
def intAt (ρ : Rho) (i : Nat) : Option Int := match ρ[i]? with
  | some (some (.d (.int w))) => some w
  | _ => none
def intS : Option SV → Option Int
  | some (.d (.int w)) => some w
  | _ => none
def evDb (kvs : List (Key × SV)) (k : Key) (ρ : Rho) : IDb → Option Bool
  | .cmpK op i => match k with
    | .inl z => (intAt ρ i).bind fun w => cmpI op z w
    | _ => none
  | .cmpV op i => (intS (valS kvs k)).bind fun z => (intAt ρ i).bind fun w => cmpI op z w
  | .and a b => (evDb kvs k ρ a).bind fun t => if t then evDb kvs k ρ b else some false
/-! ### sets of nested tuples -/
def nsOf (M : MS) : SV → Option (List D)
  | .ob i => match obj M i with
    | some (.nset ds) => some ds
    | _ => none
  | _ => none
def nsK : SV → Option NestedKey
  | .d (.tup l) => (keyN (.tup l)).bind fun k => if k.depth ≤ 8 ∧ DLN.noTxt k = true then some k else none
  | _ => none
def nsHas (k : NestedKey) (ds : List D) : Bool := ds.any fun d => decide (keyN d = some k)
/-! ### loops -/
/-- items walked: a tree's, or those of a list that may change -/
inductive Its
  | xs (l : List SV)
  | ob (i : Nat)
inductive Fl
  | nx | bk | ct
  | rt (v : SV)
abbrev RS := Option (Fl × Rho × MS)
/-- a for over items -/
def forL (b : SV → Rho → MS → RS) : List SV → Rho → MS → RS
  | [], ρ, M => some (.nx, ρ, M)
  | x :: l, ρ, M => match b x ρ M with
    | some (.nx, ρ, M) => forL b l ρ M
    | some (.ct, ρ, M) => forL b l ρ M
    | some (.bk, ρ, M) => some (.nx, ρ, M)
    | some (.rt v, ρ, M) => some (.rt v, ρ, M)
    | none => none
/-- a for over a list that may change -/
def forO (b : SV → Rho → MS → RS) (a : Nat) : Nat → Nat → Rho → MS → RS
  | 0, _, _, _ => none
  | n + 1, i, ρ, M => match obj M a with
    | some (.lst l) => match l[i]? with
      | none => some (.nx, ρ, M)
      | some x => match b x ρ M with
        | some (.nx, ρ, M) => forO b a n (i + 1) ρ M
        | some (.ct, ρ, M) => forO b a n (i + 1) ρ M
        | some (.bk, ρ, M) => some (.nx, ρ, M)
        | some (.rt v, ρ, M) => some (.rt v, ρ, M)
        | none => none
    | _ => none
/-- a comprehension over items -/
def lcL (b : SV → MS → Option (Option SV × MS)) : List SV → List SV → MS → Option (List SV × MS)
  | [], ys, M => some (ys, M)
  | x :: l, ys, M => match b x M with
    | some (some y, M) => lcL b l (ys ++ [y]) M
    | some (none, M) => lcL b l ys M
    | none => none
def lcO (b : SV → MS → Option (Option SV × MS)) (a : Nat) : Nat → Nat → List SV → MS → Option (List SV × MS)
  | 0, _, _, _ => none
  | n + 1, i, ys, M => match obj M a with
    | some (.lst l) => match l[i]? with
      | none => some (ys, M)
      | some x => match b x M with
        | some (some y, M) => lcO b a n (i + 1) (ys ++ [y]) M
        | some (none, M) => lcO b a n (i + 1) ys M
        | none => none
    | _ => none
def whl (t : Rho → MS → Option (Bool × MS)) (b : Rho → MS → RS) : Nat → Rho → MS → RS
  | 0, _, _ => none
  | n + 1, ρ, M => match t ρ M with
    | some (true, M) => match b ρ M with
      | some (.nx, ρ, M) => whl t b n ρ M
      | some (.ct, ρ, M) => whl t b n ρ M
      | some (.bk, ρ, M) => some (.nx, ρ, M)
      | some (.rt v, ρ, M) => some (.rt v, ρ, M)
      | none => none
    | some (false, M) => some (.nx, ρ, M)
    | none => none
/-- a target stores -/
def setAll : List Nat → List SV → Rho → Option Rho
  | [], [], ρ => some ρ
  | i :: is, v :: vs, ρ => setAll is vs (ρ.set i (some v))
  | _, _, _ => none
def bindT : ITg → SV → Rho → Option Rho
  | .nm i, v, ρ => some (ρ.set i (some v))
  | .tp is, .d (.tup l), ρ => setAll is (l.map SV.d) ρ
  | .nst i is, .d (.tup [x, .tup l]), ρ => setAll is (l.map SV.d) (ρ.set i (some (.d x)))
  | _, _, _ => none
def fldPut (M : MS) (o : SV) (f : Str) (v : SV) : Option MS := match o with
  | .ob i => match obj M i with
    | some (.ins c fs) => if fs.length < 1000 then some (put M i (.ins c (putS f v fs))) else none
    | _ => none
  | _ => none

def seqD : D → Option (List D)
  | .lst l => some l
  | .tup l => some l
  | .fl l => some l
  | _ => none
/-- a set comprehension with two fors over texts -/
def scI (ev : SV → MS → R) : List SV → List Str → MS → Option (List Str × MS)
  | [], zs, M => some (zs, M)
  | y :: l, zs, M => match ev y M with
    | some (.d (.str k), M) => if zs.length + 1 < 4095 then scI ev l (zs ++ [k]) M else none
    | _ => none
def scO (inn : SV → MS → R) (ev : SV → SV → MS → R) : List SV → List Str → MS → Option (List Str × MS)
  | [], zs, M => some (zs, M)
  | r :: rows, zs, M => match inn r M with
    | some (.d (.lst l), M) => match scI (ev r) (l.map SV.d) zs M with
      | some (zs, M) => scO inn ev rows zs M
      | none => none
    | _ => none
def sgAll : List ISg → List SV → Rho → MS → Option (Rho × MS)
  | [], [], ρ, M => some (ρ, M)
  | .nm i :: is, v :: vs, ρ, M => sgAll is vs (ρ.set i (some v)) M
  | .at cs o f :: is, v :: vs, ρ, M => match ρ[o]? with
    | some (some ov) => match ov with
      | .ob i => match obj M i with
        | some (.ins c _) => if cs.contains c then (fldPut M ov f v).bind fun M => sgAll is vs ρ M else none
        | _ => none
      | _ => none
    | _ => none
  | _, _, _, _ => none
/-! ### the machine -/
abbrev Call := Nat → List SV → MS → R
/-- a def over a store of its own: trees in, a tree out -/
def pureC (c : Call) (f : Nat) (xs : List SV) (M : MS) : R := match allD xs with
  | some ds => match c f (ds.map SV.d) [] with
    | some (r, M1) => match frz M1 8 r with
      | some d => some (.d d, M)
      | none => none
    | none => none
  | none => none
def pureMk (k : Call) (c f : Nat) (xs : List SV) (M : MS) : R := match allD xs with
  | some ds => match k f (.ob 0 :: ds.map SV.d) [some (.ins c [])] with
    | some (.d .non, M1) => match frz M1 8 (.ob 0) with
      | some d => some (.d d, M)
      | none => none
    | _ => none
  | none => none
def clsOf (M : MS) : SV → Option Nat
  | .d (.ins c _) => some c
  | .ob i => match obj M i with
    | some (.ins c _) => some c
    | _ => none
  | _ => none
def anyC (c : Call) (sh : Bool) (f : Nat) (xs : List SV) (M : MS) : R := if sh then c f xs M else pureC c f xs M
section
variable (c : Call)
mutual
def evE : IE → Rho → MS → R
  | .var i, ρ, M => match ρ[i]? with
    | some (some v) => some (v, M)
    | _ => none
  | .cst d, _, M => ret d M
  | .bin op a b, ρ, M => (evE a ρ M).bind fun (x, M) => (evE b ρ M).bind fun (y, M) => evBin op M x y
  | .neg a, ρ, M => (evE a ρ M).bind fun (x, M) => match x with
    | .d (.int i) => ret (.int (-i)) M
    | _ => none
  | .not a, ρ, M => (evE a ρ M).bind fun (x, M) => (tru M x).bind fun b => ret (.bl (!b)) M
  | .and a b, ρ, M => (evE a ρ M).bind fun (x, M) => (tru M x).bind fun t => if t then evE b ρ M else some (x, M)
  | .or a b, ρ, M => (evE a ρ M).bind fun (x, M) => (tru M x).bind fun t => if t then some (x, M) else evE b ρ M
  | .ife t a b, ρ, M => (evT t ρ M).bind fun (t, M) => if t then evE a ρ M else evE b ρ M
  | .cmp op a b, ρ, M => (evE a ρ M).bind fun (x, M) => (evE b ρ M).bind fun (y, M) => (evCmp op M x y).bind fun t => ret (.bl t) M
  | .cmp2 o1 o2 a b e, ρ, M => (evE a ρ M).bind fun (x, M) => (evE b ρ M).bind fun (y, M) => (evCmp o1 M x y).bind fun t =>
    if t then (evE e ρ M).bind fun (z, M) => (evCmp o2 M y z).bind fun t => ret (.bl t) M else ret (.bl false) M
  | .eqm m ng a b, ρ, M => (evE a ρ M).bind fun (x, M) => (evE b ρ M).bind fun (y, M) => (clsOf M x).bind fun k => if clsOf M y = some k then (m.lookup k).bind fun f => (pureC c f [x, y] M).bind fun (r, M) => (match r with
    | .d (.bl t) => ret (.bl (if ng then !t else t)) M
    | _ => none) else none
  | .lst ob as, ρ, M => (evA as ρ M).bind fun (xs, M) => if xs.length ≤ 1000 then (if ob then new M (.lst xs) else (allD xs).bind fun l => ret (.lst l) M) else none
  | .tup as, ρ, M => (evA as ρ M).bind fun (xs, M) => if xs.length ≤ 1000 then (allD xs).bind fun l => ret (.tup l) M else none
  | .ix a b, ρ, M => (evE a ρ M).bind fun (x, M) => (evE b ρ M).bind fun (y, M) => evIx M x y
  | .slc a i j, ρ, M => (evE a ρ M).bind fun (x, M) => (evO i ρ M).bind fun (i, M) => (evO j ρ M).bind fun (j, M) => evSlc M x i j
  | .rev a, ρ, M => (evE a ρ M).bind fun (x, M) => (lstOf M x).bind fun l => new M (.lst l.reverse)
  | .fld cs f a, ρ, M => (evE a ρ M).bind fun (x, M) => (clsOf M x).bind fun k => if cs.contains k then (fldOf M f x).map fun v => (v, M) else none
  | .call f dv sh as, ρ, M => (evA as ρ M).bind fun (xs, M) => anyC c sh f (xs ++ dv.map SV.d) M
  | .make k f dv sh as, ρ, M => (evA as ρ M).bind fun (xs, M) =>
    if sh then match c f (.ob M.length :: (xs ++ dv.map SV.d)) (M ++ [some (.ins k [])]) with
      | some (.d .non, M1) => some (.ob M.length, M1)
      | _ => none
    else pureMk c k f (xs ++ dv.map SV.d) M
  | .meth nm m dv sh o as, ρ, M => (evE o ρ M).bind fun (x, M) => if (fldOf M nm x).isNone then (clsOf M x).bind fun k => (m.lookup k).bind fun f => (evA as ρ M).bind fun (xs, M) => anyC c sh f (x :: (xs ++ dv.map SV.d)) M else none
  | .cmeth k f dv sh o as, ρ, M => (evE o ρ M).bind fun (x, M) => match x with
    | .d (.cls c') => if c' = k then (evA as ρ M).bind fun (xs, M) => anyC c sh f (.d (.cls k) :: (xs ++ dv.map SV.d)) M else none
    | _ => none
  | .makeL i tb dv sh as, ρ, M => match ρ[i]? with
    | some (some (.d (.cls k))) => (tb.lookup k).bind fun f => (evA as ρ M).bind fun (xs, M) =>
      if sh then match c f (.ob M.length :: (xs ++ dv.map SV.d)) (M ++ [some (.ins k [])]) with
        | some (.d .non, M1) => some (.ob M.length, M1)
        | _ => none
      else pureMk c k f (xs ++ dv.map SV.d) M
    | _ => none
  | .frz a, ρ, M => (evE a ρ M).bind fun (x, M) => match x with
    | .ob i => match obj M i with
      | some (.lst l) => (allD l).map fun ds => (.d (.lst ds), M.set i none)
      | _ => none
    | _ => none
  | .dnew, _, M => new M (.dct [])
  | .dget a b, ρ, M => (evE a ρ M).bind fun (x, M) => (evE b ρ M).bind fun (y, M) => (dctOf M x).bind fun kvs => (keyD y).bind fun k => (valS kvs k).map fun v => (v, M)
  | .din ng a b, ρ, M => (evE a ρ M).bind fun (y, M) => (evE b ρ M).bind fun (x, M) => (dctOf M x).bind fun kvs => (keyD y).bind fun k => ret (.bl (if ng then !(valS kvs k).isSome else (valS kvs k).isSome)) M
  | .lcD vs j cs f o b, ρ, M => match ρ[o]? with
    | some (some (.ob n)) => match obj M n with
      | some (.ins k fs) => if cs.contains k then (fs.lookup f).bind fun dv => match dv with
        | .ob i => match obj M i with
          | some (.dct kvs) => if kvs.length ≤ 1000 ∧ j < ρ.length then (kvs.mapM fun kv => evDb kvs kv.1 ρ b).bind fun l => ret (.lst (l.map D.bl)) M else none
          | _ => none
        | _ => none
        else none
      | _ => none
    | _ => none
  | .bi f as, ρ, M => (evA as ρ M).bind fun (xs, M) => evBi f M xs
  | .isi cs a ts, ρ, M => (evE a ρ M).bind fun (x, M) => (tyOf M x).bind fun t => if tyK cs t then ret (.bl (ts.any (sub1 t))) M else none
  | .bm m o as, ρ, M => (evE o ρ M).bind fun (x, M) => if bmOk m M x then (evA as ρ M).bind fun (xs, M) => evBm m M x xs else none
  | .lc ob vs tg it t e, ρ, M => (evI it ρ M).bind fun (is, M) =>
    let b : SV → MS → Option (Option SV × MS) := fun x M => (bindT tg x (wipeD ρ vs)).bind fun ρ1 => (evT t ρ1 M).bind fun (t, M) => if t then (evE e ρ1 M).bind fun (y, M) => some (some y, M) else some (none, M)
    (match is with
      | .xs l => if l.length ≤ 100000 then lcL b l [] M else none
      | .ob a => lcO b a 1000 0 [] M).bind fun (ys, M) => if ob then new M (.lst ys) else (allD ys).bind fun l => ret (.lst l) M
  | .sc2 vs i it j it2 e, ρ, M => (evE it ρ M).bind fun (x, M) => match x with
    | .d (.tup rows) => (scO (fun r M => evE it2 ((wipeD ρ vs).set i (some r)) M) (fun r y M => evE e (((wipeD ρ vs).set i (some r)).set j (some y)) M) (rows.map SV.d) [] M).bind fun (zs, M) => new M (.tset (onceS zs))
    | _ => none
  | .prop m sh a, ρ, M => (evE a ρ M).bind fun (x, M) => (clsOf M x).bind fun k => (m.lookup k).bind fun f => anyC c sh f [x] M
  | .lenm m sh a, ρ, M => (evE a ρ M).bind fun (x, M) => (clsOf M x).bind fun k => (m.lookup k).bind fun f => (anyC c sh f [x] M).bind fun (r, M) => match r with
    | .d (.int n) => if 0 ≤ n ∧ n < 9223372036854775808 then ret (.int n) M else none
    | _ => none
  | .strm m sh a, ρ, M => (evE a ρ M).bind fun (x, M) => (clsOf M x).bind fun k => (m.lookup k).bind fun f => (anyC c sh f [x] M).bind fun (r, M) => match r with
    | .d (.str s) => ret (.str s) M
    | _ => none
  | .tupS a as, ρ, M => (evE a ρ M).bind fun (x, M) => match x with
    | .d (.tup l) => (evA as ρ M).bind fun (xs, M) => if l.length + xs.length ≤ 1000 then (allD xs).bind fun ds => ret (.tup (l ++ ds)) M else none
    | _ => none
  | .fstr s a, ρ, M => (evE a ρ M).bind fun (x, M) => (fmtS x).bind fun y => if (Str.empty ++ s).length ≤ 16777216 ∧ (Str.empty ++ s ++ y).length ≤ 16777216 then ret (.str (Str.empty ++ s ++ y)) M else none
  | .ddisp2 k1 k2 a b, ρ, M => (evE a ρ (M ++ [some (.dct [])])).bind fun (x, M1) => (evE b ρ M1).bind fun (y, M2) => match obj M2 M.length with
    | some (.dct kvs) => if k1 ≠ k2 ∧ kvs.isEmpty = true then some (.ob M.length, put M2 M.length (.dct [(.inr k1, x), (.inr k2, y)])) else none
    | _ => none
  | .nsNew, _, M => new M (.nset [])
  | .nsIn ng a b, ρ, M => (evE a ρ M).bind fun (x, M) => (evE b ρ M).bind fun (y, M) => (nsOf M y).bind fun ds => (nsK x).bind fun k => ret (.bl (if ng then !nsHas k ds else nsHas k ds)) M
  | .nsAdd a b, ρ, M => (evE a ρ M).bind fun (y, M) => if (nsOf M y).isSome then (evE b ρ M).bind fun (x, M) => match y, x with
      | .ob i, .d (.tup l) => match obj M i with
        | some (.nset ds) => (nsK x).bind fun k => if ds.length + 1 < 64 then some (.d .non, put M i (.nset (if nsHas k ds then ds else .tup l :: ds))) else none
        | _ => none
      | _, _ => none
    else none
  | .kcall f src dv sh as, ρ, M => (evA as ρ M).bind fun (xs, M) => anyC c sh f (arr src xs (dv.map SV.d)) M
  | .kmake k f src dv sh as, ρ, M => (evA as ρ M).bind fun (xs, M) =>
    if sh then match c f (.ob M.length :: arr src xs (dv.map SV.d)) (M ++ [some (.ins k [])]) with
      | some (.d .non, M1) => some (.ob M.length, M1)
      | _ => none
    else pureMk c k f (arr src xs (dv.map SV.d)) M
  | .kmeth nm m src dv sh o as, ρ, M => (evE o ρ M).bind fun (x, M) => if (fldOf M nm x).isNone then (clsOf M x).bind fun k => (m.lookup k).bind fun f => (evA as ρ M).bind fun (xs, M) => anyC c sh f (x :: arr src xs (dv.map SV.d)) M else none
def evT : IT → Rho → MS → Option (Bool × MS)
  | .tt, _, M => some (true, M)
  | .val e, ρ, M => (evE e ρ M).bind fun (x, M) => (tru M x).map fun b => (b, M)
  | .not t, ρ, M => (evT t ρ M).map fun (b, M) => (!b, M)
  | .and t u, ρ, M => (evT t ρ M).bind fun (b, M) => if b then evT u ρ M else some (false, M)
  | .or t u, ρ, M => (evT t ρ M).bind fun (b, M) => if b then some (true, M) else evT u ρ M
def evO : IO → Rho → MS → Option (Option Int × MS)
  | .no, _, M => some (none, M)
  | .at e, ρ, M => (evE e ρ M).bind fun (x, M) => match x with
    | .d (.int i) => some (some i, M)
    | _ => none
def evA : IAs → Rho → MS → Option (List SV × MS)
  | .nil, _, M => some ([], M)
  | .cons a as, ρ, M => (evE a ρ M).bind fun (x, M) => (evA as ρ M).bind fun (xs, M) => some (x :: xs, M)
def evI : II → Rho → MS → Option (Its × MS)
  | .seq e, ρ, M => (evE e ρ M).bind fun (x, M) => match x with
    | .ob a => match obj M a with
      | some (.lst _) => some (.ob a, M)
      | _ => none
    | x => (seqOf M x).map fun l => (.xs l, M)
  | .rng a, ρ, M => (evE a ρ M).bind fun (x, M) => match x with
    | .d (.int n) => if -1000000 ≤ n ∧ n ≤ 1000000 then some (.xs ((List.range n.toNat).map fun (i : Nat) => SV.d (.int (i : Int))), M) else none
    | _ => none
  | .rng2 a b, ρ, M => (evE a ρ M).bind fun (x, M) => (evE b ρ M).bind fun (y, M) => match x, y with
    | .d (.int m), .d (.int n) => if -1000000 ≤ m ∧ m ≤ 1000000 ∧ -1000000 ≤ n ∧ n ≤ 1000000 then some (.xs ((List.range (n - m).toNat).map fun (i : Nat) => SV.d (.int (m + (i : Int)))), M) else none
    | _, _ => none
  | .enum s e, ρ, M => (evE e ρ M).bind fun (x, M) => match x with
    | .d d => (seqD d).map fun l => (.xs ((l.zipIdx).map fun p => .d (.tup [.int (s + p.2), p.1])), M)
    | _ => none
  | .zip a b, ρ, M => (evE a ρ M).bind fun (x, M) => (evE b ρ M).bind fun (y, M) => match x, y with
    | .d (.tup l), .d (.tup m) => some (.xs ((l.zip m).map fun p => .d (.tup [p.1, p.2])), M)
    | _, _ => none
end
mutual
def evS : IS → Rho → MS → RS
  | .set i e, ρ, M => (evE c e ρ M).bind fun (x, M) => some (.nx, ρ.set i (some x), M)
  | .unp is e, ρ, M => (evE c e ρ M).bind fun (x, M) => (seqOf M x).bind fun l => (setAll is l ρ).bind fun ρ => some (.nx, ρ, M)
  | .unpA tg e, ρ, M => (evE c e ρ M).bind fun (x, M) => match x with
    | .d (.tup l) => (sgAll tg (l.map SV.d) ρ M).bind fun (ρ, M) => some (.nx, ρ, M)
    | _ => none
  | .dput o i e, ρ, M => (evE c e ρ M).bind fun (v, M) => (evE c o ρ M).bind fun (x, M) => (evE c i ρ M).bind fun (y, M) => match x with
    | .ob a => match obj M a with
      | some (.dct kvs) => (keyD y).bind fun k => if kvs.length < 1000 then some (.nx, ρ, put M a (.dct (putK2 kvs k v))) else none
      | _ => none
    | _ => none
  | .unpS i j e, ρ, M => (evE c e ρ M).bind fun (x, M) => match x with
    | .d (.lst (a :: l)) => some (.nx, (ρ.set i (some (.d a))).set j (some (.d (.lst l))), M)
    | _ => none
  | .par i j a b, ρ, M => (evE c a ρ M).bind fun (x, M) => (evE c b ρ M).bind fun (y, M) => some (.nx, (ρ.set i (some x)).set j (some y), M)
  | .fldS cs o f e, ρ, M => (evE c e ρ M).bind fun (x, M) => (evE c o ρ M).bind fun (y, M) => (clsOf M y).bind fun k => if cs.contains k then (fldPut M y f x).bind fun M => some (.nx, ρ, M) else none
  | .subS o i e, ρ, M => (evE c e ρ M).bind fun (x, M) => (evE c o ρ M).bind fun (y, M) => (evE c i ρ M).bind fun (z, M) => match y, z with
    | .ob a, .d (.int z) => match obj M a with
      | some (.lst l) => (ixN l.length z).bind fun j => some (.nx, ρ, put M a (.lst (l.set j x)))
      | _ => none
    | _, _ => none
  | .aug i op e, ρ, M => match ρ[i]? with
    | some (some v) => (evE c e ρ M).bind fun (x, M) => match v, x with
      | .d (.int _), .d (.int _) => (evBin op M v x).bind fun (r, M) => some (.nx, ρ.set i (some r), M)
      | _, _ => none
    | _ => none
  | .fldA cs o f op e, ρ, M => (evE c o ρ M).bind fun (y, M) => (clsOf M y).bind fun k => if cs.contains k then (fldOf M f y).bind fun v => (evE c e ρ M).bind fun (x, M) => if clsOf M y = some k then (match v, x with
      | .d (.int _), .d (.int _) => (evBin op M v x).bind fun (r, M) => (fldPut M y f r).bind fun M => some (.nx, ρ, M)
      | _, _ => none) else none
    else none
  | .expr e, ρ, M => (evE c e ρ M).bind fun (_, M) => some (.nx, ρ, M)
  | .ret e, ρ, M => (evE c e ρ M).bind fun (x, M) => some (.rt x, ρ, M)
  | .retN, ρ, M => some (.rt (.d .non), ρ, M)
  | .ife t a b, ρ, M => (evT c t ρ M).bind fun (t, M) => if t then evB a ρ M else evB b ρ M
  | .whl t b, ρ, M => whl (fun ρ M => evT c t ρ M) (fun ρ M => evB b ρ M) 1000 ρ M
  | .forr tg it b, ρ, M => (evI c it ρ M).bind fun (is, M) => match is with
    | .xs l => forL (fun x ρ M => (bindT tg x ρ).bind fun ρ => evB b ρ M) l ρ M
    | .ob a => forO (fun x ρ M => (bindT tg x ρ).bind fun ρ => evB b ρ M) a 1000 0 ρ M
  | .brk, ρ, M => some (.bk, ρ, M)
  | .cnt, ρ, M => some (.ct, ρ, M)
  | .pass, ρ, M => some (.nx, ρ, M)
  | .dead, _, _ => none
  | .tryy b, ρ, M => evB b ρ M
def evB : IBs → Rho → MS → RS
  | .nil, ρ, M => some (.nx, ρ, M)
  | .cons s b, ρ, M => (evS s ρ M).bind fun (f, ρ, M) => match f with
    | .nx => evB b ρ M
    | f => some (f, ρ, M)
end
end
/-- a def's call -/
def body (c : Call) (n : Nat) (b : IBs) (xs : List SV) (M : MS) : R := match evB c b (startD (List.replicate n ("" : Str)) xs) M with
  | some (.nx, _, M) => some (.d .non, M)
  | some (.rt v, _, M) => some (v, M)
  | _ => none
/-- a text's defs: number of parameters, of slots, body -/
structure Df where
  np : Nat
  ns : Nat
  b : IBs
def callK (T : List Df) : Nat → Call
  | 0, _, _, _ => none
  | k + 1, f, xs, M => match T[f]? with
    | some d => if xs.length = d.np then body (callK T k) d.ns d.b xs M else none
    | none => none
end EV

set_option autoImplicit false
/-! how the small machine's store stands to the heap -/
namespace EV
open PySem PySem.Spec PyProof.Rows L2 DL

section
variable {α β : Type} {F G : α → β → Prop}
theorem pmap (f : ∀ a b, F a b → G a b) : ∀ {l : List α} {m : List β}, Paired F l m → Paired G l m
  | _, _, .nil => .nil
  | _, _, .cons r t => .cons (f _ _ r) (pmap f t)
theorem plen : ∀ {l : List α} {m : List β}, Paired F l m → l.length = m.length
  | _, _, .nil => rfl
  | _, _, .cons _ t => congrArg (· + 1) (plen t)
theorem pget : ∀ {l : List α} {m : List β} {i : Nat} {x : α}, Paired F l m → l[i]? = some x → ∃ y, m[i]? = some y ∧ F x y
  | _, _, _, _, .nil, h => by simp at h
  | _, _, 0, _, .cons r _, h => by simp at h; subst h; exact ⟨_, rfl, r⟩
  | _, _, i + 1, _, .cons _ t, h => by
    obtain ⟨y, h1, h2⟩ := pget (i := i) t (by simpa using h)
    exact ⟨y, by simpa using h1, h2⟩
theorem pset {x : α} {y : β} (r : F x y) : ∀ {l : List α} {m : List β} (i : Nat), Paired F l m → Paired F (l.set i x) (m.set i y)
  | _, _, _, .nil => .nil
  | _, _, 0, .cons _ t => .cons r t
  | _, _, i + 1, .cons q t => .cons q (pset r i t)
theorem papp : ∀ {l l' : List α} {m m' : List β}, Paired F l m → Paired F l' m' → Paired F (l ++ l') (m ++ m')
  | _, _, _, _, .nil, h => h
  | _, _, _, _, .cons r t, h => .cons r (papp t h)
theorem pdropLast : ∀ {l : List α} {m : List β}, Paired F l m → Paired F l.dropLast m.dropLast
  | _, _, .nil => .nil
  | _, _, .cons _ .nil => .nil
  | _, _, .cons r (.cons q t) => .cons r (pdropLast (.cons q t))
theorem perase : ∀ {l : List α} {m : List β} (i : Nat), Paired F l m → Paired F (l.eraseIdx i) (m.eraseIdx i)
  | _, _, _, .nil => .nil
  | _, _, 0, .cons _ t => t
  | _, _, i + 1, .cons r t => .cons r (perase i t)
theorem prev : ∀ {l : List α} {m : List β}, Paired F l m → Paired F l.reverse m.reverse
  | _, _, .nil => .nil
  | _, _, .cons r t => by
    rw [List.reverse_cons, List.reverse_cons]
    exact papp (prev t) (.cons r .nil)
theorem prepl {x : α} {y : β} (r : F x y) : ∀ n : Nat, Paired F (List.replicate n x) (List.replicate n y)
  | 0 => .nil
  | n + 1 => .cons r (prepl r n)
end

def RelS (ν : List Addr) : SV → SV → Prop
  | .d a, .d b => a = b
  | .ob i, .ob a => ν[i]? = some a
  | _, _ => False
abbrev RelL (ν : List Addr) : List SV → List SV → Prop := Paired (RelS ν)
abbrev RelF {κ : Type} (ν : List Addr) : List (κ × SV) → List (κ × SV) → Prop := Paired fun p q => p.1 = q.1 ∧ RelS ν p.2 q.2
def RelO (ν : List Addr) : MO → MO → Prop
  | .lst l, .lst m => RelL ν l m
  | .ins c fs, .ins d gs => c = d ∧ RelF ν fs gs
  | .exc c fs, .exc d gs => c = d ∧ RelF ν fs gs
  | .tset ks, .tset js => ks.Perm js
  | .dct ks, .dct js => RelF ν ks js
  | .dctL ks, .dctL js => RelF ν ks js
  | .nset ds, .nset es => ds.Perm es
  | .rng a b, .rng c d => a = c ∧ b = d
  | _, _ => False
def RelP (ν : List Addr) : Option SV → Option SV → Prop
  | none, none => True
  | some a, some b => RelS ν a b
  | _, _ => False
abbrev RelR (ν : List Addr) : Rho → Rho → Prop := Paired (RelP ν)

section
variable {ν : List Addr} {v s : SV} {M : MS} {g : G}
theorem RelS.ext (t : List Addr) (h : RelS ν v s) : RelS (ν ++ t) v s := by
  cases v <;> cases s <;> first | exact h | skip
  rename_i i a
  have h : ν[i]? = some a := h
  show (ν ++ t)[i]? = some a
  obtain ⟨hi, e⟩ := List.getElem?_eq_some_iff.mp h
  rw [List.getElem?_append_left hi]; exact h
theorem RelL.ext (t : List Addr) {l m : List SV} (h : RelL ν l m) : RelL (ν ++ t) l m := pmap (fun _ _ r => r.ext t) h
theorem RelF.ext {κ : Type} (t : List Addr) {l m : List (κ × SV)} (h : RelF ν l m) : RelF (ν ++ t) l m := pmap (fun _ _ r => ⟨r.1, r.2.ext t⟩) h
theorem RelO.ext (t : List Addr) {o u : MO} (h : RelO ν o u) : RelO (ν ++ t) o u := by
  cases o <;> cases u <;> first | exact False.elim h | skip
  · exact RelL.ext t h
  · exact ⟨h.1, RelF.ext t h.2⟩
  · exact ⟨h.1, RelF.ext t h.2⟩
  · exact h
  · exact RelF.ext t h
  · exact RelF.ext t h
  · exact h
  · exact h
theorem RelP.ext (t : List Addr) {o u : Option SV} (h : RelP ν o u) : RelP (ν ++ t) o u := by
  cases o <;> cases u <;> first | exact h | exact RelS.ext t h
theorem RelR.ext (t : List Addr) {o u : Rho} (h : RelR ν o u) : RelR (ν ++ t) o u := pmap (fun _ _ r => r.ext t) h
theorem relS_d {x : D} (h : RelS ν (.d x) s) : s = .d x := by
  cases s with
  | d b => exact congrArg SV.d (show x = b from h).symm
  | ob a => exact False.elim h
theorem relS_ob {i : Nat} (h : RelS ν (.ob i) s) : ∃ a, s = .ob a ∧ ν[i]? = some a := by
  cases s with
  | d b => exact False.elim h
  | ob a => exact ⟨a, rfl, h⟩
theorem relL_d : ∀ {l : List D} {m : List SV}, RelL ν (l.map SV.d) m → m = l.map SV.d
  | [], _, .nil => rfl
  | x :: l, _, .cons r t => by rw [relS_d r, relL_d t]; rfl
theorem relL_dd : ∀ (l : List D), RelL ν (l.map SV.d) (l.map SV.d)
  | [] => .nil
  | x :: l => .cons (show x = x from rfl) (relL_dd l)
theorem relL_all : ∀ {l m : List SV} {ds : List D}, RelL ν l m → allD l = some ds → m = ds.map SV.d
  | [], _, _, .nil, h => by cases h; rfl
  | .d x :: l, _, ds, .cons r t, h => by
    rw [show allD (.d x :: l) = (allD l).map (x :: ·) from rfl] at h
    cases e : allD l with
    | none => rw [e] at h; cases h
    | some es =>
      rw [e] at h; cases h
      rw [relS_d r, relL_all t e]; rfl
  | .ob i :: l, _, _, _, h => by cases h
theorem allD_map : ∀ (l : List D), allD (l.map SV.d) = some l
  | [] => rfl
  | x :: l => by show (allD (l.map SV.d)).map (x :: ·) = _; rw [allD_map l]; rfl
theorem allD_eq : ∀ {l : List SV} {ds : List D}, allD l = some ds → l = ds.map SV.d
  | [], _, h => by cases h; rfl
  | .d x :: l, ds, h => by
    rw [show allD (.d x :: l) = (allD l).map (x :: ·) from rfl] at h
    cases e : allD l with
    | none => rw [e] at h; cases h
    | some es => rw [e] at h; cases h; rw [allD_eq e]; rfl
  | .ob i :: l, _, h => by cases h

structure Cfg (ν : List Addr) (M : MS) (g : G) : Prop where
  len : ν.length = M.length
  at_ : ∀ (i : Nat) (o : MO), M[i]? = some (some o) → ∃ a u, ν[i]? = some a ∧ g a = some u ∧ RelO ν o u
  inj : ∀ (i j : Nat) (a : Addr) (o o' : MO), M[i]? = some (some o) → M[j]? = some (some o') → ν[i]? = some a → ν[j]? = some a → i = j
def Own (ν : List Addr) (M : MS) (a : Addr) : Prop := ∃ (i : Nat) (o : MO), M[i]? = some (some o) ∧ ν[i]? = some a
structure Nxt (ν : List Addr) (M : MS) (g : G) (ν' : List Addr) (M' : MS) (g' : G) : Prop where
  ext : ∃ t, ν' = ν ++ t
  cfg : Cfg ν' M' g'
  frm : ∀ a o, g a = some o → ¬ Own ν M a → g' a = some o ∧ ¬ Own ν' M' a
theorem Nxt.refl (h : Cfg ν M g) : Nxt ν M g ν M g := ⟨⟨[], by simp⟩, h, fun a o e n => ⟨e, n⟩⟩
theorem Nxt.trans {ν1 ν2 : List Addr} {M1 M2 : MS} {g1 g2 : G} (h : Nxt ν M g ν1 M1 g1) (k : Nxt ν1 M1 g1 ν2 M2 g2) : Nxt ν M g ν2 M2 g2 := by
  obtain ⟨t, e⟩ := h.ext
  obtain ⟨u, e'⟩ := k.ext
  refine ⟨⟨t ++ u, by rw [e', e, List.append_assoc]⟩, k.cfg, fun a o ea na => ?_⟩
  obtain ⟨h1, h2⟩ := h.frm a o ea na
  exact k.frm a o h1 h2
theorem Nxt.rs {ν1 : List Addr} {M1 : MS} {g1 : G} (h : Nxt ν M g ν1 M1 g1) (r : RelS ν v s) : RelS ν1 v s := by
  obtain ⟨t, rfl⟩ := h.ext; exact r.ext t
theorem Nxt.rl {ν1 : List Addr} {M1 : MS} {g1 : G} (h : Nxt ν M g ν1 M1 g1) {l m : List SV} (r : RelL ν l m) : RelL ν1 l m := by
  obtain ⟨t, rfl⟩ := h.ext; exact RelL.ext t r
theorem Nxt.ro {ν1 : List Addr} {M1 : MS} {g1 : G} (h : Nxt ν M g ν1 M1 g1) {o u : MO} (r : RelO ν o u) : RelO ν1 o u := by
  obtain ⟨t, rfl⟩ := h.ext; exact RelO.ext t r
theorem Nxt.rr {ν1 : List Addr} {M1 : MS} {g1 : G} (h : Nxt ν M g ν1 M1 g1) {ρ ρR : Rho} (r : RelR ν ρ ρR) : RelR ν1 ρ ρR := by
  obtain ⟨t, rfl⟩ := h.ext; exact RelR.ext t r
theorem obj_eq {i : Nat} {o : MO} (h : obj M i = some o) : M[i]? = some (some o) := by
  unfold obj at h
  split at h
  · rename_i o' e; cases h; exact e
  · cases h
theorem obj_mk {i : Nat} {o : MO} (h : M[i]? = some (some o)) : obj M i = some o := by unfold obj; rw [h]
/-- what stands at a number -/
theorem Cfg.obj {i : Nat} {o : MO} (C : Cfg ν M g) (h : EV.obj M i = some o) (r : RelS ν (.ob i) s) : ∃ a u, s = .ob a ∧ ν[i]? = some a ∧ g a = some u ∧ RelO ν o u := by
  obtain ⟨a, rfl, ha⟩ := relS_ob r
  obtain ⟨b, u, hb, hg, ho⟩ := C.at_ i o (obj_eq h)
  rw [ha] at hb; cases hb
  exact ⟨a, u, rfl, ha, hg, ho⟩
/-- a new thing -/
theorem Nxt.new {o u : MO} {p : Addr} (C : Cfg ν M g) (hp : g p = none) (r : RelO ν o u) : Nxt ν M g (ν ++ [p]) (M ++ [some o]) (gset g p u) := by
  have low : ∀ {i : Nat} {x : Option MO}, i < M.length → (M ++ [some o])[i]? = some x → M[i]? = some x := fun hi h => by
    rw [List.getElem?_append_left hi] at h; exact h
  have lowν : ∀ {i : Nat} {x : Addr}, i < M.length → (ν ++ [p])[i]? = some x → ν[i]? = some x := fun hi h => by
    rw [List.getElem?_append_left (by rw [C.len]; exact hi)] at h; exact h
  have top : ∀ {i : Nat} {x : Option MO}, ¬ i < M.length → (M ++ [some o])[i]? = some x → i = M.length ∧ x = some o := fun {i x} hi h => by
    rw [List.getElem?_append_right (by omega)] at h
    obtain ⟨h1, h2⟩ := List.getElem?_eq_some_iff.mp h
    have : i - M.length = 0 := by simpa using h1
    have e : i = M.length := by omega
    subst e
    simp at h2
    exact ⟨rfl, h2.symm⟩
  have topν : (ν ++ [p])[M.length]? = some p := by
    rw [List.getElem?_append_right (by rw [C.len]; exact Nat.le_refl _), C.len]; simp
  have own : ∀ {a : Addr}, Own ν M a → ∃ x, g a = some x := fun {a} ⟨i, o', h1, h2⟩ => by
    obtain ⟨b, x, hb, hg, _⟩ := C.at_ i o' h1
    rw [h2] at hb; cases hb
    exact ⟨x, hg⟩
  refine ⟨⟨[p], rfl⟩, ⟨by simp [C.len], fun i o' h => ?_, fun i j a o1 o2 h1 h2 h3 h4 => ?_⟩, fun a o' e n => ?_⟩
  · by_cases hi : i < M.length
    · obtain ⟨a, x, ha, hg, ho⟩ := C.at_ i o' (low hi h)
      refine ⟨a, x, ?_, ?_, ho.ext _⟩
      · rw [List.getElem?_append_left (by rw [C.len]; exact hi)]; exact ha
      · rw [gset_ne (fun z => by rw [z, hp] at hg; cases hg)]; exact hg
    · obtain ⟨rfl, e⟩ := top hi h
      cases e
      exact ⟨p, u, topν, gset_same, r.ext _⟩
  · have np : ∀ {i : Nat} {o1 : MO}, i < M.length → M[i]? = some (some o1) → ν[i]? = some p → False := fun {i o1} hi h1 h3 => by
      obtain ⟨x, hx⟩ := own ⟨i, o1, h1, h3⟩
      rw [hp] at hx; cases hx
    by_cases hi : i < M.length
    · by_cases hj : j < M.length
      · exact C.inj i j a o1 o2 (low hi h1) (low hj h2) (lowν hi h3) (lowν hj h4)
      · obtain ⟨rfl, _⟩ := top hj h2
        rw [topν] at h4; cases h4
        exact (np hi (low hi h1) (lowν hi h3)).elim
    · obtain ⟨rfl, _⟩ := top hi h1
      rw [topν] at h3; cases h3
      by_cases hj : j < M.length
      · exact (np hj (low hj h2) (lowν hj h4)).elim
      · exact (top hj h2).1.symm
  · refine ⟨by rw [gset_ne (fun z => by rw [z, hp] at e; cases e)]; exact e, fun ⟨i, o1, h1, h2⟩ => ?_⟩
    by_cases hi : i < M.length
    · exact n ⟨i, o1, low hi h1, lowν hi h2⟩
    · obtain ⟨rfl, _⟩ := top hi h1
      rw [topν] at h2; cases h2
      rw [hp] at e; cases e
/-- a thing is changed -/
theorem Nxt.put {o o2 u2 : MO} {i : Nat} {a : Addr} (C : Cfg ν M g) (h : EV.obj M i = some o) (ha : ν[i]? = some a) (r : RelO ν o2 u2) : Nxt ν M g ν (put M i o2) (gset g a u2) := by
  have h := obj_eq h
  have hi : i < M.length := (List.getElem?_eq_some_iff.mp h).1
  have ne : ∀ {j : Nat} {b : Addr} {o' : MO}, j ≠ i → M[j]? = some (some o') → ν[j]? = some b → b ≠ a := fun {j b o'} hj h1 h2 z => hj (C.inj j i a o' o h1 h (by rw [← z]; exact h2) ha)
  have get : ∀ {j : Nat} {o' : MO}, (EV.put M i o2)[j]? = some (some o') → (j = i ∧ o' = o2) ∨ (j ≠ i ∧ M[j]? = some (some o')) := fun {j o'} e => by
    unfold EV.put at e
    by_cases z : i = j
    · subst z
      rw [List.getElem?_set_self hi] at e
      cases e
      exact .inl ⟨rfl, rfl⟩
    · rw [List.getElem?_set_ne z] at e
      exact .inr ⟨fun q => z q.symm, e⟩
  have live : ∀ {j : Nat} {o' : MO}, (EV.put M i o2)[j]? = some (some o') → ∃ o1, M[j]? = some (some o1) := fun e => by
    rcases get e with ⟨rfl, _⟩ | ⟨_, e⟩
    · exact ⟨o, h⟩
    · exact ⟨_, e⟩
  refine ⟨⟨[], by simp⟩, ⟨by unfold EV.put; rw [List.length_set]; exact C.len, fun j o' e => ?_, fun j k b o1 o3 h1 h2 h3 h4 => ?_⟩, fun b o' e n => ?_⟩
  · rcases get e with ⟨rfl, rfl⟩ | ⟨hj, e⟩
    · exact ⟨a, u2, ha, gset_same, r⟩
    · obtain ⟨b, u, hb, hg, ho⟩ := C.at_ j o' e
      exact ⟨b, u, hb, by rw [gset_ne (ne hj e hb)]; exact hg, ho⟩
  · obtain ⟨_, e1⟩ := live h1
    obtain ⟨_, e2⟩ := live h2
    exact C.inj j k b _ _ e1 e2 h3 h4
  · have nb : b ≠ a := fun z => n ⟨i, o, h, by rw [z]; exact ha⟩
    refine ⟨by rw [gset_ne nb]; exact e, fun ⟨j, o1, h1, h2⟩ => ?_⟩
    obtain ⟨_, e1⟩ := live h1
    exact n ⟨j, _, e1, h2⟩
/-- the empty store -/
theorem Cfg.nil (g : G) : Cfg [] [] g := ⟨rfl, fun i o h => by simp at h, fun i j a o o' h => by simp at h⟩

/-! ### what is wanted -/
def PV (ν : List Addr) (M : MS) (g : G) (v : SV) (M' : MS) : QE := fun sv g' => ∃ ν', Nxt ν M g ν' M' g' ∧ RelS ν' v sv
def PB (ν : List Addr) (M : MS) (g : G) (b : Bool) (M' : MS) : Bool → G → Prop := fun b' g' => b' = b ∧ ∃ ν', Nxt ν M g ν' M' g'
def PL (ν : List Addr) (M : MS) (g : G) (vs : List SV) (M' : MS) : List SV → G → Prop := fun svs g' => ∃ ν', Nxt ν M g ν' M' g' ∧ RelL ν' vs svs
def PR (ν : List Addr) (M : MS) (g : G) (ρ' : Rho) (M' : MS) : Rho → G → Prop := fun ρ2 g' => ∃ ν', Nxt ν M g ν' M' g' ∧ RelR ν' ρ' ρ2
theorem PV.d {x : D} (C : Cfg ν M g) : PV ν M g (.d x) M (.d x) g := ⟨ν, Nxt.refl C, (show x = x from rfl)⟩
theorem PV.back {ν1 : List Addr} {M1 M2 : MS} {g1 g2 : G} {sv : SV} (N : Nxt ν M g ν1 M1 g1) (h : PV ν1 M1 g1 v M2 sv g2) : PV ν M g v M2 sv g2 :=
  let ⟨ν', N', r⟩ := h; ⟨ν', N.trans N', r⟩
theorem PB.back {ν1 : List Addr} {M1 M2 : MS} {g1 g2 : G} {b b' : Bool} (N : Nxt ν M g ν1 M1 g1) (h : PB ν1 M1 g1 b M2 b' g2) : PB ν M g b M2 b' g2 :=
  let ⟨e, ν', N'⟩ := h; ⟨e, ν', N.trans N'⟩
theorem PL.back {ν1 : List Addr} {M1 M2 : MS} {g1 g2 : G} {vs svs : List SV} (N : Nxt ν M g ν1 M1 g1) (h : PL ν1 M1 g1 vs M2 svs g2) : PL ν M g vs M2 svs g2 :=
  let ⟨ν', N', r⟩ := h; ⟨ν', N.trans N', r⟩
theorem PR.back {ν1 : List Addr} {M1 M2 : MS} {g1 g2 : G} {ρ ρ2 : Rho} (N : Nxt ν M g ν1 M1 g1) (h : PR ν1 M1 g1 ρ M2 ρ2 g2) : PR ν M g ρ M2 ρ2 g2 :=
  let ⟨ν', N', r⟩ := h; ⟨ν', N.trans N', r⟩
end

/-! ### values that are read -/
section
variable {ν : List Addr} {v s : SV} {M : MS} {g : G}
theorem lstOf_rel {l : List SV} (C : Cfg ν M g) (h : lstOf M v = some l) (r : RelS ν v s) : ∃ l', LstOf g s l' ∧ RelL ν l l' := by
  cases v with
  | d x =>
    cases relS_d r
    cases x <;> first | (cases h; exact ⟨_, .inl ⟨_, rfl, rfl⟩, relL_dd _⟩) | (cases h; exact ⟨_, .inr (.inr ⟨_, rfl, rfl⟩), relL_dd _⟩) | cases h
  | ob i =>
    unfold lstOf at h
    cases e : obj M i with
    | none => simp only [e] at h; cases h
    | some o =>
      simp only [e] at h
      obtain ⟨a, u, rfl, ha, hg, ho⟩ := C.obj e r
      cases o <;> first | (cases h; done) | skip
      cases h
      cases u <;> first | exact False.elim ho | skip
      exact ⟨_, .inr (.inl ⟨a, rfl, hg⟩), ho⟩
theorem seqOf_rel {l : List SV} (C : Cfg ν M g) (h : seqOf M v = some l) (r : RelS ν v s) : ∃ l', SeqOf g s l' ∧ RelL ν l l' := by
  have low : lstOf M v = some l → ∃ l', SeqOf g s l' ∧ RelL ν l l' := fun h => by
    obtain ⟨l', h1, h2⟩ := lstOf_rel C h r
    refine ⟨l', ?_, h2⟩
    rcases h1 with h1 | h1 | h1
    · exact .inl h1
    · exact .inr (.inr (.inl h1))
    · exact .inr (.inr (.inr h1))
  cases v with
  | ob i => exact low h
  | d x =>
    cases x <;> first | exact low h | skip
    cases relS_d r
    cases h
    exact ⟨_, .inr (.inl ⟨_, rfl, rfl⟩), relL_dd _⟩
theorem treesOf_rel {l : List D} (C : Cfg ν M g) (h : treesOf M v = some l) (r : RelS ν v s) : SeqOf g s (l.map SV.d) := by
  unfold treesOf at h
  cases e : seqOf M v with
  | none => rw [e] at h; cases h
  | some m =>
    rw [e] at h
    obtain ⟨l', h1, h2⟩ := seqOf_rel C e r
    have h : allD m = some l := h
    rw [relL_all h2 h] at h1
    exact h1
theorem mapM_inv {α β : Type} {f : α → Option β} : ∀ {l : List α} {m : List β}, l.mapM f = some m → Paired (fun a b => f a = some b) l m
  | [], m, h => by
    rw [List.mapM_nil] at h
    cases h; exact .nil
  | a :: l, m, h => by
    rw [List.mapM_cons] at h
    cases e : f a with
    | none => rw [e] at h; cases h
    | some b =>
      rw [e] at h
      cases e2 : l.mapM f with
      | none => simp only [e2] at h; cases h
      | some bs =>
        simp only [e2] at h
        cases h
        exact .cons e (mapM_inv e2)
theorem mapM_mk {α β : Type} {f : α → Option β} : ∀ {l : List α} {m : List β}, Paired (fun a b => f a = some b) l m → l.mapM f = some m
  | _, _, .nil => rfl
  | _, _, .cons r t => by
    rw [List.mapM_cons, r]
    simp only [mapM_mk t]; rfl
theorem strs_eq : ∀ {l : List D} {ys : List Str}, Paired (fun a b => strD a = some b) l ys → l = ys.map D.str
  | _, _, .nil => rfl
  | _, _, .cons (a := a) r t => by
    rw [strs_eq t]
    cases a <;> cases r
    rfl
theorem bls_eq : ∀ {l : List D} {ys : List Bool}, Paired (fun a b => blD a = some b) l ys → l = ys.map D.bl
  | _, _, .nil => rfl
  | _, _, .cons (a := a) r t => by
    rw [bls_eq t]
    cases a <;> cases r
    rfl
theorem bind_inv {α β : Type} {x : Option α} {f : α → Option β} {b : β} (h : x.bind f = some b) : ∃ a, x = some a ∧ f a = some b := by
  cases x with
  | none => cases h
  | some a => exact ⟨a, rfl, h⟩
theorem map_inv {α β : Type} {x : Option α} {f : α → β} {b : β} (h : x.map f = some b) : ∃ a, x = some a ∧ f a = b := by
  cases x with
  | none => cases h
  | some a => cases h; exact ⟨a, rfl, rfl⟩
theorem if_inv {α : Type} {c : Prop} [Decidable c] {x : Option α} {b : α} (h : (if c then x else none) = some b) : c ∧ x = some b := by
  by_cases hc : c
  · rw [if_pos hc] at h; exact ⟨hc, h⟩
  · rw [if_neg hc] at h; cases h
theorem strsOf_rel {ys : List Str} (C : Cfg ν M g) (h : strsOf M v = some ys) (r : RelS ν v s) : SeqOf g s ((ys.map D.str).map SV.d) := by
  obtain ⟨l, h1, h2⟩ := bind_inv h
  have := treesOf_rel C h1 r
  rw [strs_eq (mapM_inv h2)] at this
  exact this
theorem blsOf_rel {ys : List Bool} (C : Cfg ν M g) (h : blsOf M v = some ys) (r : RelS ν v s) : SeqOf g s ((ys.map D.bl).map SV.d) := by
  obtain ⟨l, h1, h2⟩ := bind_inv h
  have := treesOf_rel C h1 r
  rw [bls_eq (mapM_inv h2)] at this
  exact this
end
end EV

set_option autoImplicit false
/-! the small machine's operations are those of the heap -/
namespace EV
open PySem PySem.Spec PyProof.Rows L2 DL
section
variable {X : Cx} {W : Wd} {ν : List Addr} {M M' : MS} {g : G} {x y v sx sy : SV}
theorem relO_lst {l : List SV} {u : MO} (h : RelO ν (.lst l) u) : ∃ m, u = .lst m ∧ RelL ν l m := by
  cases u <;> first | exact False.elim h | exact ⟨_, rfl, h⟩
theorem relO_set {l : List Str} {u : MO} (h : RelO ν (.tset l) u) : ∃ m, u = .tset m ∧ l.Perm m := by
  cases u <;> first | exact False.elim h | exact ⟨_, rfl, h⟩
theorem relO_ins {c : Nat} {l : List (Str × SV)} {u : MO} (h : RelO ν (.ins c l) u) : ∃ m, u = .ins c m ∧ RelF ν l m := by
  cases u <;> first | exact False.elim h | skip
  obtain ⟨rfl, h⟩ := h
  exact ⟨_, rfl, h⟩
theorem ret_inv {d : D} (h : ret d M = some (v, M')) : v = .d d ∧ M' = M := by
  unfold ret at h; cases h; exact ⟨rfl, rfl⟩
theorem obj_inv {i : Nat} {f : MO → R} (h : (match obj M i with | some o => f o | none => none) = some (v, M')) : ∃ o, obj M i = some o ∧ f o = some (v, M') := by
  cases e : obj M i with
  | none => rw [e] at h; cases h
  | some o => rw [e] at h; exact ⟨o, rfl, h⟩
/-- a new thing, as what is wanted -/
theorem PV.new {o u : MO} {p : Addr} (C : Cfg ν M g) (hp : g p = none) (r : RelO ν o u) : PV ν M g (.ob M.length) (M ++ [some o]) (.ob p) (gset g p u) :=
  ⟨ν ++ [p], Nxt.new C hp r, by
    show (ν ++ [p])[M.length]? = some p
    rw [List.getElem?_append_right (by rw [C.len]; exact Nat.le_refl _), C.len]; simp⟩
theorem tup_rel {l : List D} {H : Hp} {vv : V} (r : RepS W H g (.d (.tup l)) vv) : ∃ a xs, vv = .ref a ∧ SqT W.K H a xs ∧ Reps W H g l xs := by
  obtain ⟨a, xs, rfl, h1, h2⟩ := r
  exact ⟨a, xs, rfl, h1.sq, h2⟩
theorem rw_catT {l m : List D} {Q : QE} (hz : l.length + m.length ≤ 16777216) (q : Q (.d (.tup (l ++ m))) g) : RW W (rCatA W.K) (.d (.tup l)) (.d (.tup m)) g Q := fun H vx vy k rx ry Q' q' => by
  obtain ⟨a, xs, rfl, h1, h2⟩ := rx
  obtain ⟨b, ys, rfl, h3, h4⟩ := ry
  refine ⟨a, b, xs, ys, rfl, rfl, h1.sq, h3.sq, by rw [← h2.length, ← h4.length, sizeLine_eq]; exact hz, fun e => ?_, fun e e2 => ?_, fun _ _ p hp => q' _ _ (post_tup k hp (h2.append h4) q)⟩
  · have hl : l = [] := by cases l with | nil => rfl | cons c l => have := h2.length; rw [e] at this; simp at this
    subst hl
    exact q' _ _ ⟨.d (.tup m), g, k, Ext.refl g H, ⟨b, ys, rfl, h3, h4⟩, q⟩
  · have hl : m = [] := by cases m with | nil => rfl | cons c l => have := h4.length; rw [e2] at this; simp at this
    subst hl
    rw [List.append_nil] at q
    exact q' _ _ ⟨.d (.tup l), g, k, Ext.refl g H, ⟨a, xs, rfl, h1, h2⟩, q⟩
theorem rw_catLL {l m : List D} {Q : QE} (hz : l.length + m.length ≤ 16777216) (q : Q (.d (.lst (l ++ m))) g) : RW W rCat (.d (.lst l)) (.d (.lst m)) g Q := fun H vx vy k rx ry Q' q' => by
  obtain ⟨a, xs, rfl, h1, h2⟩ := rx
  obtain ⟨b, ys, rfl, h3, h4⟩ := ry
  exact ⟨a, b, xs, ys, rfl, rfl, h1.1, h3.1, by rw [← h2.length, ← h4.length, sizeLine_eq]; exact hz, fun p hp => q' _ _ (post_lst k hp (h2.append h4) q)⟩
theorem rw_catOO {a b : Addr} {l m : List SV} {Q : QE} (ha : g a = some (.lst l)) (hb : g b = some (.lst m)) (hl : l.length + m.length ≤ 16777216) (q : ∀ p, g p = none → Q (.ob p) (gset g p (.lst (l ++ m)))) : RW W rCat (.ob a) (.ob b) g Q := fun H vx vy k rx ry Q' q' => by
  obtain ⟨xs, hx, r1⟩ := k a _ ha
  obtain ⟨ys, hy, r2⟩ := k b _ hb
  exact ⟨a, b, xs, ys, rx, ry, hx, hy, by rw [← r1.length, ← r2.length, sizeLine_eq]; omega, fun p hp => q' _ _ (post_ob k hp (r1.append r2) (q p (k.free hp)))⟩
theorem rw_catOL {a : Addr} {l : List SV} {m : List D} {Q : QE} (ha : g a = some (.lst l)) (hl : l.length + m.length ≤ 16777216) (q : ∀ p, g p = none → Q (.ob p) (gset g p (.lst (l ++ m.map SV.d)))) : RW W rCat (.ob a) (.d (.lst m)) g Q := fun H vx vy k rx ry Q' q' => by
  obtain ⟨xs, hx, r1⟩ := k a _ ha
  obtain ⟨b, ys, rfl, h3, h4⟩ := ry
  exact ⟨a, b, xs, ys, rx, rfl, hx, h3.1, by rw [← r1.length, ← h4.length, sizeLine_eq]; omega, fun p hp => q' _ _ (post_ob k hp (r1.append (reps_to h4)) (q p (k.free hp)))⟩
theorem reps_rep {H : Hp} {l : List D} {xs : List V} (r : Reps W H g l xs) : ∀ n : Nat, Reps W H g (List.replicate n l).flatten (List.replicate n xs).flatten
  | 0 => rfl
  | n + 1 => by
    rw [List.replicate_succ, List.replicate_succ, List.flatten_cons, List.flatten_cons]
    exact r.append (reps_rep r n)
theorem rw_repL {l : List D} {j : Int} {Q : QE} (hz : 0 ≤ j ∧ j ≤ 1000 ∧ l.length ≤ 1000) (q : Q (.d (.lst (List.replicate j.toNat l).flatten)) g) : RW W rRep (.d (.lst l)) (.d (.int j)) g Q := fun H vx vy k rx ry Q' q' => by
  obtain ⟨a, xs, rfl, h1, h2⟩ := rx
  cases (show vy = .int j from ry)
  obtain ⟨z1, z2, z3⟩ := hz
  refine ⟨a, j, xs, rfl, rfl, h1.1, by omega, by omega, ?_, fun p hp => q' _ _ (post_lst k hp (reps_rep h2 _) q)⟩
  rw [← h2.length, sizeLine_eq]
  have : j.toNat ≤ 1000 := by omega
  exact Nat.le_trans (Nat.mul_le_mul z3 this) (by decide)
theorem rw_repT {l : List D} {j : Int} {Q : QE} (hz : 2 ≤ j ∧ j ≤ 1000 ∧ l.length ≤ 1000 ∧ l.isEmpty = false) (q : Q (.d (.tup (List.replicate j.toNat l).flatten)) g) : RW W (rRepT W.K) (.d (.tup l)) (.d (.int j)) g Q := fun H vx vy k rx ry Q' q' => by
  obtain ⟨a, xs, rfl, h1, h2⟩ := rx
  cases (show vy = .int j from ry)
  obtain ⟨z1, z2, z3, z4⟩ := hz
  refine ⟨a, j, xs, rfl, rfl, h1.sq, ?_, z1, z2, by rw [← h2.length]; exact z3, fun p hp => q' _ _ ?_⟩
  · intro e
    have := h2.length
    rw [e] at this
    cases l with
    | nil => cases z4
    | cons x l => simp at this
  · exact ⟨.d (.tup _), g, k.new hp, Ext.new hp, ⟨p, _, rfl, .inl ⟨.inl upd_same, k.free hp⟩, Reps.ext (Ext.new hp) _ _ (reps_rep h2 _)⟩, q⟩
def opOf : BOp → Operator
  | .add => .Add | .sub => .Sub | .mul => .Mult | .fdiv => .FloorDiv | .mod => .Mod | .pow => .Pow
theorem small_ok {i : Int} (h : small i = true) : -(2 ^ 64) < i ∧ i < 2 ^ 64 := of_decide_eq_true h
theorem bin_ok {op : BOp} (hK : X.K = W.K) (h : evBin op M x y = some (v, M')) : ∃ r, OpR X (binaryOp (opOf op)) r ∧
    ∀ ν g sx sy, Cfg ν M g → RelS ν x sx → RelS ν y sy → RW W r sx sy g (PV ν M g v M') := by
  unfold evBin at h
  split at h
  · obtain ⟨rfl, rfl⟩ := ret_inv h
    exact ⟨_, op_add, fun ν g sx sy C rx ry => by rw [relS_d rx, relS_d ry]; exact rw_ii (PV.d C)⟩
  · obtain ⟨hz, h⟩ := if_inv h
    obtain ⟨rfl, rfl⟩ := ret_inv h
    exact ⟨_, op_add_str, fun ν g sx sy C rx ry => by rw [relS_d rx, relS_d ry]; exact rw_adds (by rw [sizeLine_eq]; exact hz) (PV.d C)⟩
  · obtain ⟨hz, h⟩ := if_inv h
    obtain ⟨rfl, rfl⟩ := ret_inv h
    exact ⟨_, op_catA, fun ν g sx sy C rx ry => by rw [relS_d rx, relS_d ry, hK]; exact rw_catT hz (PV.d C)⟩
  · obtain ⟨hz, h⟩ := if_inv h
    obtain ⟨rfl, rfl⟩ := ret_inv h
    exact ⟨_, op_cat, fun ν g sx sy C rx ry => by rw [relS_d rx, relS_d ry]; exact rw_catLL hz (PV.d C)⟩
  · rename_i a b
    split at h
    · rename_i l m ea eb
      obtain ⟨hz, h⟩ := if_inv h
      unfold EV.new at h; cases h
      refine ⟨_, op_cat, fun ν g sx sy C rx ry => ?_⟩
      obtain ⟨p, u, rfl, hp, hu, ho⟩ := C.obj ea rx
      obtain ⟨q, w, rfl, hq, hw, ho'⟩ := C.obj eb ry
      obtain ⟨l', rfl, rl⟩ := relO_lst ho
      obtain ⟨m', rfl, rm⟩ := relO_lst ho'
      exact rw_catOO hu hw (by rw [← plen rl, ← plen rm]; exact hz) fun p hp => PV.new C hp (papp rl rm)
    · cases h
  · rename_i a m
    split at h
    · rename_i l ea
      obtain ⟨hz, h⟩ := if_inv h
      unfold EV.new at h; cases h
      refine ⟨_, op_cat, fun ν g sx sy C rx ry => ?_⟩
      obtain ⟨p, u, rfl, hp, hu, ho⟩ := C.obj ea rx
      obtain ⟨l', rfl, rl⟩ := relO_lst ho
      rw [relS_d ry]
      exact rw_catOL hu (by rw [← plen rl]; exact hz) fun p hp => PV.new C hp (papp rl (relL_dd m))
    · cases h
  · obtain ⟨rfl, rfl⟩ := ret_inv h
    exact ⟨_, op_sub, fun ν g sx sy C rx ry => by rw [relS_d rx, relS_d ry]; exact rw_ii (PV.d C)⟩
  · rename_i i j
    obtain ⟨hz, h⟩ := if_inv h
    obtain ⟨rfl, rfl⟩ := ret_inv h
    have hc : CMul i j := by
      rcases Bool.or_eq_true_iff.mp hz with z | z
      · exact .inl (small_ok z)
      · exact .inr (small_ok z)
    exact ⟨_, op_mul, fun ν g sx sy C rx ry => by rw [relS_d rx, relS_d ry]; exact rw_ic (C := CMul) hc (PV.d C)⟩
  · obtain ⟨hz, h⟩ := if_inv h
    obtain ⟨rfl, rfl⟩ := ret_inv h
    exact ⟨_, op_fdiv, fun ν g sx sy C rx ry => by rw [relS_d rx, relS_d ry]; exact rw_ic (C := CDiv) hz (PV.d C)⟩
  · obtain ⟨hz, h⟩ := if_inv h
    obtain ⟨rfl, rfl⟩ := ret_inv h
    exact ⟨_, op_mod, fun ν g sx sy C rx ry => by rw [relS_d rx, relS_d ry]; exact rw_ic (C := fun _ j => 0 < j) hz (PV.d C)⟩
  · obtain ⟨hz, h⟩ := if_inv h
    obtain ⟨rfl, rfl⟩ := ret_inv h
    exact ⟨_, op_rep, fun ν g sx sy C rx ry => by rw [relS_d rx, relS_d ry]; exact rw_repL hz (PV.d C)⟩
  · obtain ⟨hz, h⟩ := if_inv h
    obtain ⟨rfl, rfl⟩ := ret_inv h
    exact ⟨_, op_repT, fun ν g sx sy C rx ry => by rw [relS_d rx, relS_d ry, hK]; exact rw_repT hz (PV.d C)⟩
  · obtain ⟨hz, h⟩ := if_inv h
    obtain ⟨rfl, rfl⟩ := ret_inv h
    exact ⟨_, op_pow, fun ν g sx sy C rx ry => by rw [relS_d rx, relS_d ry]; exact rw_ic (C := CPow) hz (PV.d C)⟩
  · cases h

/-! ### data behind things -/
theorem pys_of (C : Cfg ν M g) {H : Hp} (k : GOk W H g) : ∀ (n : Nat) {v s : SV} {vv : V} {p : PyData}, pyS M n v = some p → RelS ν v s → RepS W H g s vv → Dp W.K H vv p
  | n, .d x, s, vv, p, h, r, rr => by
    cases relS_d r
    have h : toPy x = some p := by cases n <;> exact h
    exact dp_of x vv p rr h
  | 0, .ob i, s, vv, p, h, r, rr => by cases h
  | n + 1, .ob i, s, vv, p, h, r, rr => by
    unfold pyS at h
    split at h
    · rename_i l e
      obtain ⟨ps, h1, rfl⟩ := map_inv h
      obtain ⟨a, u, rfl, ha, hu, ho⟩ := C.obj e r
      obtain ⟨l', rfl, rl⟩ := relO_lst ho
      obtain ⟨xs, hx, rx⟩ := k a _ hu
      cases (show vv = .ref a from rr)
      refine .lst (.inl (.inl hx)) ?_
      have all : ∀ {l l' : List SV} {ps : List PyData} {xs : List V}, Paired (fun a b => pyS M n a = some b) l ps → RelL ν l l' → RepSs W H g l' xs → DpAll W.K H xs ps := by
        intro l l' ps xs hp
        induction hp generalizing l' xs with
        | nil => intro hr hs; cases hr; cases (show xs = [] from hs); exact .nil
        | cons h1 _ ih =>
          intro hr hs
          cases hr with
          | cons r1 rt =>
            obtain ⟨y, ys, rfl, s1, s2⟩ := hs
            exact .cons (pys_of C k n h1 r1 s1) (ih rt s2)
      exact all (mapM_inv h1) rl rx
    · cases h
theorem rw_eqS {p q : PyData} {nx ny : Nat} {Q : QE} (C : Cfg ν M g) (hx : pyS M nx x = some p) (hy : pyS M ny y = some q) (rx : RelS ν x sx) (ry : RelS ν y sy) (sp : SeqAt.shaped p = true) (sq : SeqAt.shaped q = true) (z : Q (.d (.bl (PyData.eqv p q))) g) : RW W (rEqD W.K) sx sy g Q := fun H vx vy k r1 r2 Q' q' =>
  ⟨p, q, pys_of C k nx hx rx r1, pys_of C k ny hy ry r2, sp, sq, q' _ _ (post_same (r := .d (.bl _)) k rfl z)⟩
theorem rw_neS {p q : PyData} {nx ny : Nat} {Q : QE} (C : Cfg ν M g) (hx : pyS M nx x = some p) (hy : pyS M ny y = some q) (rx : RelS ν x sx) (ry : RelS ν y sy) (sp : SeqAt.shaped p = true) (sq : SeqAt.shaped q = true) (z : Q (.d (.bl (!PyData.eqv p q))) g) : RW W (rNeD W.K) sx sy g Q := fun H vx vy k r1 r2 Q' q' =>
  ⟨p, q, pys_of C k nx hx rx r1, pys_of C k ny hy ry r2, sp, sq, q' _ _ (post_same (r := .d (.bl _)) k rfl z)⟩
theorem dec_V {α : Type} [DecidableEq α] {f : α → V} (inj : ∀ a b, f a = f b → a = b) (a b : α) : decide (f a = f b) = decide (a = b) := by
  by_cases h : a = b
  · subst h; simp
  · rw [decide_eq_false h, decide_eq_false]; exact fun e => h (inj _ _ e)
def copOf : COp → CmpOp
  | .eq => .Eq | .ne => .NotEq | .lt => .Lt | .le => .LtE | .gt => .Gt | .ge => .GtE | .isin => .In | .nin => .NotIn | .isN => .Is | .notN => .IsNot
abbrev QB (b : Bool) (g : G) : QE := fun z g' => z = .d (.bl b) ∧ g' = g
theorem eq_ok {b : Bool} (hK : X.K = W.K) (hu : X.A.units + 65 < cLine) (h : eqSV M x y = some b) :
    (∃ r, OpR X (compareOp .Eq) r ∧ ∀ ν g sx sy, Cfg ν M g → RelS ν x sx → RelS ν y sy → RW W r sx sy g (QB b g)) ∧
    (∃ r, OpR X (compareOp .NotEq) r ∧ ∀ ν g sx sy, Cfg ν M g → RelS ν x sx → RelS ν y sy → RW W r sx sy g (QB (!b) g)) := by
  unfold eqSV at h
  split at h
  · rename_i i j
    cases h
    refine ⟨⟨_, op_eq, fun ν g sx sy C rx ry => ?_⟩, ⟨_, op_ne, fun ν g sx sy C rx ry => ?_⟩⟩
    · rw [relS_d rx, relS_d ry]
      exact rw_eq (u := .int i) (v := .int j) rfl rfl rfl ⟨by rw [dec_ii], rfl⟩
    · rw [relS_d rx, relS_d ry]
      exact rw_ne (u := .int i) (v := .int j) rfl rfl rfl ⟨by rw [dec_ii], rfl⟩
  · rename_i i j
    cases h
    have e : decide (V.str i = V.str j) = decide (i = j) := dec_V (fun a b e => V.str.inj e) i j
    refine ⟨⟨_, op_eq, fun ν g sx sy C rx ry => ?_⟩, ⟨_, op_ne, fun ν g sx sy C rx ry => ?_⟩⟩
    · rw [relS_d rx, relS_d ry]
      exact rw_eq (u := .str i) (v := .str j) rfl rfl rfl ⟨by rw [e], rfl⟩
    · rw [relS_d rx, relS_d ry]
      exact rw_ne (u := .str i) (v := .str j) rfl rfl rfl ⟨by rw [e], rfl⟩
  · rename_i i j
    cases h
    have e : decide (V.bl i = V.bl j) = decide (i = j) := dec_V (fun a b e => V.bl.inj e) i j
    refine ⟨⟨_, op_eq, fun ν g sx sy C rx ry => ?_⟩, ⟨_, op_ne, fun ν g sx sy C rx ry => ?_⟩⟩
    · rw [relS_d rx, relS_d ry]
      exact rw_eq (u := .bl i) (v := .bl j) rfl rfl rfl ⟨by rw [e], rfl⟩
    · rw [relS_d rx, relS_d ry]
      exact rw_ne (u := .bl i) (v := .bl j) rfl rfl rfl ⟨by rw [e], rfl⟩
  · split at h
    · rename_i p q hp hq
      obtain ⟨hs, h⟩ := if_inv h
      cases h
      obtain ⟨s1, s2⟩ := Bool.and_eq_true_iff.mp hs
      refine ⟨⟨_, op_eqD (by omega), fun ν g sx sy C rx ry => ?_⟩, ⟨_, op_neD (by omega), fun ν g sx sy C rx ry => ?_⟩⟩
      · rw [hK]; exact rw_eqS C hp hq rx ry s1 s2 ⟨rfl, rfl⟩
      · rw [hK]; exact rw_neS C hp hq rx ry s1 s2 ⟨rfl, rfl⟩
    · cases h
end
end EV

set_option autoImplicit false
/-! comparisons, places, slices -/
namespace EV
open PySem PySem.Spec PyProof.Rows L2 DL
section
variable {X : Cx} {W : Wd} {ν : List Addr} {M M' : MS} {g : G} {x y v sx sy : SV}
theorem reps_flat {H : Hp} : ∀ {l : List D} {us : List V} {xs : List V}, Paired (fun a b => flatD a = some b) l us → Reps W H g l xs → xs = us
  | [], _, _, .nil, r => r
  | d :: l, _, _, .cons h t, r => by
    obtain ⟨x, r', rfl, r1, r2⟩ := r
    rw [flatD_rep h r1, reps_flat t r2]
theorem flat_ok : ∀ {x : D} {u : V}, flatD x = some u → flatV u = true
  | .non, _, h => by cases h; rfl
  | .bl _, _, h => by cases h; rfl
  | .int _, _, h => by cases h; rfl
  | .str _, _, h => by cases h; rfl
  | .lst _, _, h => by cases h
  | .tup _, _, h => by cases h
  | .ins _ _, _, h => by cases h
  | .cls _, _, h => by cases h
  | .fl _, _, h => by cases h
theorem flats_ok : ∀ {l : List D} {us : List V}, Paired (fun a b => flatD a = some b) l us → us.all flatV = true
  | _, _, .nil => rfl
  | _, _, .cons h t => by rw [List.all_cons, flat_ok h, flats_ok t]; rfl
theorem rw_inF {neg : Bool} {x : D} {u : V} {s : SV} {l : List D} {us : List V} {Q : QE} (hx : flatD x = some u) (hs : SeqOf g s (l.map SV.d)) (hl : Paired (fun a b => flatD a = some b) l us) (q : Q (.d (.bl (if neg then !inV u us else inV u us))) g) : RW W (rIn W.K neg) (.d x) s g Q := fun H vx vy k rx ry Q' q' => by
  rw [flatD_rep hx rx]
  obtain ⟨a, xs, rfl, h1, h2⟩ := hs.v k ry
  rw [reps_flat hl (reps_of h2)] at h1
  exact ⟨a, us, rfl, h1, flat_ok hx, flats_ok hl, q' _ _ (post_same (r := .d (.bl _)) k rfl q)⟩
theorem in_ok {b : Bool} (hK : X.K = W.K) (hu : X.A.units + 65 < cLine) (h : inSV M x y = some b) :
    (∃ r, OpR X (compareOp .In) r ∧ ∀ ν g sx sy, Cfg ν M g → RelS ν x sx → RelS ν y sy → RW W r sx sy g (QB b g)) ∧
    (∃ r, OpR X (compareOp .NotIn) r ∧ ∀ ν g sx sy, Cfg ν M g → RelS ν x sx → RelS ν y sy → RW W r sx sy g (QB (!b) g)) := by
  unfold inSV at h
  split at h
  · cases h
    refine ⟨⟨_, op_in_str, fun ν g sx sy C rx ry => ?_⟩, ⟨_, op_notin_str, fun ν g sx sy C rx ry => ?_⟩⟩
    · rw [relS_d rx, relS_d ry]
      exact fun H vx vy k r1 r2 Q' q' => ⟨_, _, r1, r2, q' _ _ (post_same (r := .d (.bl _)) k rfl ⟨rfl, rfl⟩)⟩
    · rw [relS_d rx, relS_d ry]
      exact fun H vx vy k r1 r2 Q' q' => ⟨_, _, r1, r2, q' _ _ (post_same (r := .d (.bl _)) k rfl ⟨rfl, rfl⟩)⟩
  · split at h
    · rename_i u us hx hs
      cases h
      obtain ⟨l, h1, h2⟩ := bind_inv hs
      obtain ⟨d, rfl⟩ : ∃ d, x = .d d := by
        cases x with
        | d d => exact ⟨d, rfl⟩
        | ob i => cases hx
      refine ⟨⟨_, op_in_seq, fun ν g sx sy C rx ry => ?_⟩, ⟨_, op_notIn_seq, fun ν g sx sy C rx ry => ?_⟩⟩
      · rw [relS_d rx, hK]
        exact rw_inF (neg := false) hx (treesOf_rel C h1 ry) (mapM_inv h2) ⟨rfl, rfl⟩
      · rw [relS_d rx, hK]
        exact rw_inF (neg := true) hx (treesOf_rel C h1 ry) (mapM_inv h2) ⟨rfl, rfl⟩
    · split at h
      · rename_i p qs hp hq
        obtain ⟨hs, h⟩ := if_inv h
        cases h
        obtain ⟨s1, s2⟩ := Bool.and_eq_true_iff.mp hs
        refine ⟨⟨_, op_inD hu, fun ν g sx sy C rx ry => ?_⟩, ⟨_, op_notInD hu, fun ν g sx sy C rx ry => ?_⟩⟩
        · rw [hK]
          exact fun H vx vy k r1 r2 Q' q' => ⟨p, qs, pys_of C k 4 hp rx r1, pys_of C k 4 hq ry r2, s1, s2, q' _ _ (post_same (r := .d (.bl _)) k rfl ⟨rfl, rfl⟩)⟩
        · rw [hK]
          exact fun H vx vy k r1 r2 Q' q' => ⟨p, qs, pys_of C k 4 hp rx r1, pys_of C k 4 hq ry r2, s1, s2, q' _ _ (post_same (r := .d (.bl _)) k rfl ⟨rfl, rfl⟩)⟩
      · cases h
theorem rw_str2 {f : Str → Str → Bool} {i j : Str} {b : Bool} (e : f i j = b) : RW W (fun x y H Q => ∃ i j, x = V.str i ∧ y = V.str j ∧ Q (.bl (f i j)) H) (.d (.str i)) (.d (.str j)) g (QB b g) := fun H vx vy k r1 r2 Q' q' =>
  ⟨i, j, r1, r2, q' _ _ (post_same (r := .d (.bl (f i j))) k rfl ⟨by rw [e], rfl⟩)⟩
def isNonS : SV → Bool
  | .d .non => true
  | _ => false
theorem rw_isn {neg : Bool} {s : SV} {b : Bool} (h : isNonS s = b) : RW W (fun x y H Q => y = .non ∧ Q (.bl (if neg then !decide (x = .non) else decide (x = .non))) H) s (.d .non) g (QB (if neg then !b else b) g) := fun H vx vy k rx ry Q' q' => by
  refine ⟨ry, ?_⟩
  have e : decide (vx = .non) = b := by
    cases s with
    | ob a => cases (show vx = .ref a from rx); exact h
    | d x =>
      cases x with
      | non => cases (show vx = _ from rx); exact h
      | bl b => cases (show vx = _ from rx); exact h
      | int b => cases (show vx = _ from rx); exact h
      | str b => cases (show vx = _ from rx); exact h
      | lst l => obtain ⟨a, xs, rfl, _⟩ := rx; exact h
      | tup l => obtain ⟨a, xs, rfl, _⟩ := rx; exact h
      | ins c fs => obtain ⟨a, dx, vs, rfl, _⟩ := rx; exact h
      | cls c => cases (show vx = _ from rx); exact h
      | fl l => obtain ⟨a, xs, rfl, _⟩ := rx; exact h
  rw [e]
  exact q' _ _ (post_same (r := .d (.bl _)) k rfl ⟨rfl, rfl⟩)
theorem isn_rel {b : Bool} (h : isNonS x = b) (r : RelS ν x sx) : isNonS sx = b := by
  cases x with
  | d d => rw [relS_d r]; exact h
  | ob i => obtain ⟨a, rfl, _⟩ := relS_ob r; exact h
/-- two truth values, one thing or not -/
theorem op_isB : OpR X (compareOp .Is) (fun x y H Q => ∃ i j, x = V.bl i ∧ y = V.bl j ∧ Q (.bl (decide (i = j))) H) := by
  intro pins s σ H x y v u Q I rx ry h
  obtain ⟨i, j, rfl, rfl, q⟩ := h
  cases rx
  cases ry
  cases i <;> cases j <;> exact wpAny_pure (fin_bl I q rfl)
theorem op_notB : OpR X (compareOp .IsNot) (fun x y H Q => ∃ i j, x = V.bl i ∧ y = V.bl j ∧ Q (.bl (!decide (i = j))) H) := by
  intro pins s σ H x y v u Q I rx ry h
  obtain ⟨i, j, rfl, rfl, q⟩ := h
  cases rx
  cases ry
  cases i <;> cases j <;> exact wpAny_pure (fin_bl I q rfl)
theorem rw_bb {f : Bool → Bool → Bool} {i j : Bool} : RW W (fun x y H Q => ∃ i j, x = V.bl i ∧ y = V.bl j ∧ Q (.bl (f i j)) H) (.d (.bl i)) (.d (.bl j)) g (QB (f i j) g) := fun H vx vy k r1 r2 Q' q' =>
  ⟨i, j, r1, r2, q' _ _ (post_same (r := .d (.bl (f i j))) k rfl ⟨rfl, rfl⟩)⟩
theorem cmp_ok {op : COp} {b : Bool} (hK : X.K = W.K) (hu : X.A.units + 65 < cLine) (h : evCmp op M x y = some b) : ∃ r, OpR X (compareOp (copOf op)) r ∧
    ∀ ν g sx sy, Cfg ν M g → RelS ν x sx → RelS ν y sy → RW W r sx sy g (QB b g) := by
  unfold evCmp at h
  split at h
  · exact (eq_ok hK hu h).1
  · obtain ⟨c, h1, rfl⟩ := map_inv h
    exact (eq_ok hK hu h1).2
  · cases h; exact ⟨_, op_lt, fun ν g sx sy C rx ry => by rw [relS_d rx, relS_d ry]; exact rw_ib ⟨rfl, rfl⟩⟩
  · cases h; exact ⟨_, op_le, fun ν g sx sy C rx ry => by rw [relS_d rx, relS_d ry]; exact rw_ib ⟨rfl, rfl⟩⟩
  · cases h; exact ⟨_, op_gt, fun ν g sx sy C rx ry => by rw [relS_d rx, relS_d ry]; exact rw_ib ⟨rfl, rfl⟩⟩
  · cases h; exact ⟨_, op_ge, fun ν g sx sy C rx ry => by rw [relS_d rx, relS_d ry]; exact rw_ib ⟨rfl, rfl⟩⟩
  · cases h; exact ⟨_, op_lt_str, fun ν g sx sy C rx ry => by
      rw [relS_d rx, relS_d ry]
      exact rw_str2 (f := fun i j => decide (i.cps.toList < j.cps.toList)) (by unfold leStr; rw [Bool.not_not, lt_meets])⟩
  · cases h; exact ⟨_, op_le_str, fun ν g sx sy C rx ry => by
      rw [relS_d rx, relS_d ry]
      exact rw_str2 (f := fun i j => !decide (j.cps.toList < i.cps.toList)) (by unfold leStr; rw [le_meets])⟩
  · cases h; exact ⟨_, op_gt_str, fun ν g sx sy C rx ry => by
      rw [relS_d rx, relS_d ry]
      exact rw_str2 (f := fun i j => decide (j.cps.toList < i.cps.toList)) (by unfold leStr; rw [Bool.not_not, gt_meets])⟩
  · cases h; exact ⟨_, op_ge_str, fun ν g sx sy C rx ry => by
      rw [relS_d rx, relS_d ry]
      exact rw_str2 (f := fun i j => !decide (i.cps.toList < j.cps.toList)) (by unfold leStr; rw [ge_meets])⟩
  · exact (in_ok hK hu h).1
  · obtain ⟨c, h1, rfl⟩ := map_inv h
    exact (in_ok hK hu h1).2
  · cases h; exact ⟨_, op_isN, fun ν g sx sy C rx ry => by rw [relS_d ry]; exact rw_isn (neg := false) (isn_rel rfl rx)⟩
  · rename_i hn
    cases h; exact ⟨_, op_isN, fun ν g sx sy C rx ry => by
      rw [relS_d ry]
      exact rw_isn (neg := false) (isn_rel (by unfold isNonS; split <;> first | rfl | (exfalso; exact hn rfl)) rx)⟩
  · cases h; exact ⟨_, op_isB, fun ν g sx sy C rx ry => by rw [relS_d rx, relS_d ry]; exact rw_bb (f := fun i j => decide (i = j))⟩
  · cases h; exact ⟨_, op_notB, fun ν g sx sy C rx ry => by rw [relS_d rx, relS_d ry]; exact rw_bb (f := fun i j => !decide (i = j))⟩
  · cases h; exact ⟨_, op_notN, fun ν g sx sy C rx ry => by rw [relS_d ry]; exact rw_isn (neg := true) (b := true) (isn_rel rfl rx)⟩
  · rename_i hn
    cases h; exact ⟨_, op_notN, fun ν g sx sy C rx ry => by
      rw [relS_d ry]
      exact rw_isn (neg := true) (b := false) (isn_rel (by unfold isNonS; split <;> first | rfl | (exfalso; exact hn rfl)) rx)⟩
  · cases h

/-! ### places -/
theorem atI_rel : ∀ {l m : List SV} {i : Int} {v : SV}, RelL ν l m → atI l i = some v → ∃ s, atI m i = some s ∧ RelS ν v s := fun {l m i v} r h => by
  unfold atI at h ⊢
  rw [← plen r]
  cases e : ixN l.length i with
  | none => rw [e] at h; cases h
  | some j => rw [e] at h; exact pget r h
theorem ix_ok (hK : X.K = W.K) (h : evIx M x y = some (v, M')) : ∃ r, IxR X r ∧ ∀ ν g sx sy, Cfg ν M g → RelS ν x sx → RelS ν y sy → RW W r sx sy g (PV ν M g v M') := by
  unfold evIx at h
  split at h
  · obtain ⟨d, h1, h2⟩ := bind_inv h
    obtain ⟨rfl, rfl⟩ := ret_inv h2
    exact ⟨_, ix_tup, fun ν g sx sy C rx ry => by rw [relS_d rx, relS_d ry, hK]; exact rw_ixT h1 (PV.d C)⟩
  · obtain ⟨hz, h⟩ := if_inv h
    obtain ⟨d, h1, h2⟩ := bind_inv h
    obtain ⟨rfl, rfl⟩ := ret_inv h2
    exact ⟨_, ix_str, fun ν g sx sy C rx ry => by rw [relS_d rx, relS_d ry]; exact rw_ixS (by rw [sizeLine_eq]; exact hz) h1 (PV.d C)⟩
  · obtain ⟨l, h1, h2⟩ := bind_inv h
    obtain ⟨v', h3, h4⟩ := map_inv h2
    cases h4
    refine ⟨_, ix_list, fun ν g sx sy C rx ry => ?_⟩
    obtain ⟨l', h5, h6⟩ := lstOf_rel C h1 rx
    obtain ⟨s, h7, h8⟩ := atI_rel h6 h3
    rw [relS_d ry, hK]
    exact rw_ixL h5 h7 ⟨ν, Nxt.refl C, h8⟩
  · cases h
theorem rsl_tupA {l : List D} {i j : Option Int} {Q : QE} (q : Q (.d (.tup (cutL l i j))) g) : RSl W (rSlA W.K) (.d (.tup l)) i j g Q := fun H vx k rx Q' q' => by
  obtain ⟨a, xs, rfl, h1, h2⟩ := rx
  refine ⟨a, xs, rfl, h1.sq, fun e => ?_, fun _ p hp => q' _ _ (post_tup k hp h2.cut q)⟩
  rw [← h2.length] at e
  have hc : cutL l i j = l := by
    unfold cutL
    rw [e.1, e.2, List.drop_zero, Nat.sub_zero, List.take_length]
  rw [hc] at q
  exact q' _ _ ⟨.d (.tup l), g, k, Ext.refl g H, ⟨a, xs, rfl, h1, h2⟩, q⟩
theorem slc_ok {i j : Option Int} (hK : X.K = W.K) (h : evSlc M x i j = some (v, M')) : ∃ r, SlR X r ∧ ∀ ν g sx, Cfg ν M g → RelS ν x sx → RSl W r sx i j g (PV ν M g v M') := by
  unfold evSlc at h
  split at h
  · obtain ⟨rfl, rfl⟩ := ret_inv h
    exact ⟨_, sl_tupA, fun ν g sx C rx => by rw [relS_d rx, hK]; exact rsl_tupA (PV.d C)⟩
  · obtain ⟨hz, h⟩ := if_inv h
    obtain ⟨rfl, rfl⟩ := ret_inv h
    exact ⟨_, sl_str, fun ν g sx C rx => by
      rw [relS_d rx]
      exact fun H vx k r1 Q' q' => ⟨_, r1, by rw [sizeLine_eq]; exact hz, q' _ _ (post_same (r := .d (.str _)) k rfl (PV.d C))⟩⟩
  · obtain ⟨l, h1, h2⟩ := bind_inv h
    obtain ⟨l0, h3, h4⟩ := bind_inv h1
    obtain ⟨rfl, rfl⟩ := ret_inv h2
    refine ⟨_, sl_list, fun ν g sx C rx => ?_⟩
    obtain ⟨l', h5, h6⟩ := lstOf_rel C h3 rx
    rw [relL_all h6 h4] at h5
    rw [hK]
    exact rsl_list h5 (PV.d C)
end
end EV

set_option autoImplicit false
/-! built-ins by name, and methods of built-in types -/
namespace EV
open PySem PySem.Spec PyProof.Rows L2 DL

/-! ### texts in order -/
theorem leS_iff {a b : Str} : leStr a b = true ↔ a.cps.toList ≤ b.cps.toList := by
  unfold leStr
  rw [ltCps_eq, Bool.not_eq_true', decide_eq_false_iff_not]
  exact List.not_lt
theorem leS_trans {a b c : Str} (h : leStr a b = true) (k : leStr b c = true) : leStr a c = true := leS_iff.mpr (List.le_trans (leS_iff.mp h) (leS_iff.mp k))
theorem leS_total (a b : Str) : leStr a b = true ∨ leStr b a = true := by
  rcases List.le_total a.cps.toList b.cps.toList with h | h
  · exact .inl (leS_iff.mpr h)
  · exact .inr (leS_iff.mpr h)
theorem leS_antisymm {a b : Str} (h : leStr a b = true) (k : leStr b a = true) : a = b := by
  have := List.le_antisymm (leS_iff.mp h) (leS_iff.mp k)
  cases a; cases b
  exact congrArg Str.mk (Array.toList_inj.mp this)
theorem insS_perm (a : Str) : ∀ l : List Str, (insS a l).Perm (a :: l)
  | [] => List.Perm.refl _
  | b :: l => by
    unfold insS
    split
    · exact List.Perm.refl _
    · exact ((insS_perm a l).cons b).trans (List.Perm.swap a b l)
theorem sortS_perm : ∀ l : List Str, (sortS l).Perm l
  | [] => List.Perm.refl _
  | a :: l => (insS_perm a (sortS l)).trans ((sortS_perm l).cons a)
theorem insS_pw (a : Str) : ∀ {l : List Str}, l.Pairwise (fun x y => leStr x y = true) → (insS a l).Pairwise fun x y => leStr x y = true
  | [], _ => List.Pairwise.cons (fun _ h => by simp at h) List.Pairwise.nil
  | b :: l, h => by
    cases h with
    | cons h1 h2 =>
      unfold insS
      split
      · rename_i hab
        refine List.Pairwise.cons (fun c hc => ?_) (List.Pairwise.cons h1 h2)
        rcases List.mem_cons.mp hc with rfl | hc
        · exact hab
        · exact leS_trans hab (h1 c hc)
      · rename_i hab
        have hba : leStr b a = true := (leS_total a b).resolve_left hab
        refine List.Pairwise.cons (fun c hc => ?_) (insS_pw a h2)
        rcases List.mem_cons.mp ((insS_perm a l).mem_iff.mp hc) with rfl | hc
        · exact hba
        · exact h1 c hc
theorem sortS_pw : ∀ l : List Str, (sortS l).Pairwise fun x y => leStr x y = true
  | [] => List.Pairwise.nil
  | a :: l => insS_pw a (sortS_pw l)
theorem rising_pw : ∀ {a : Str} {l : List Str}, risingS a l = true → (a :: l).Pairwise fun x y => leStr x y = true
  | a, [], _ => List.Pairwise.cons (fun _ h => by simp at h) List.Pairwise.nil
  | a, b :: l, h => by
    unfold risingS at h
    obtain ⟨h1, h2⟩ := Bool.and_eq_true_iff.mp h
    have ih := rising_pw h2
    refine List.Pairwise.cons (fun c hc => ?_) ih
    rcases List.mem_cons.mp hc with rfl | hc
    · exact h1
    · cases ih with
      | cons h3 h4 => exact leS_trans (show leStr a b = true from h1) (h3 c hc)
theorem sorted_pw {l : List Str} (h : sortedS l = true) : l.Pairwise fun x y => leStr x y = true := by
  cases l with
  | nil => exact List.Pairwise.nil
  | cons a l => exact rising_pw h
theorem sorted_uniq {l m : List Str} (h : sortedS l = true) (p : l.Perm m) : l = sortS m :=
  List.Perm.eq_of_pairwise (le := fun x y => leStr x y = true) (fun a b _ _ h1 h2 => leS_antisymm h1 h2) (sorted_pw h) (sortS_pw m) (p.trans (sortS_perm m).symm)
theorem sortS_congr {l m : List Str} (p : l.Perm m) : sortS l = sortS m :=
  List.Perm.eq_of_pairwise (le := fun x y => leStr x y = true) (fun a b _ _ h1 h2 => leS_antisymm h1 h2) (sortS_pw l) (sortS_pw m) ((sortS_perm l).trans (p.trans (sortS_perm m).symm))
theorem onceS_mem : ∀ {l : List Str} {k : Str}, k ∈ onceS l ↔ k ∈ l
  | [], _ => Iff.rfl
  | a :: l, k => by
    unfold onceS
    split
    · rename_i h
      rw [onceS_mem, List.mem_cons]
      exact ⟨.inr, fun z => z.elim (fun e => by rw [e]; exact h) id⟩
    · rw [List.mem_cons, List.mem_cons, onceS_mem]
theorem onceS_nd : ∀ l : List Str, (onceS l).Nodup
  | [] => List.nodup_nil
  | a :: l => by
    unfold onceS
    split
    · exact onceS_nd l
    · rename_i h
      exact List.nodup_cons.mpr ⟨fun z => h (onceS_mem.mp z), onceS_nd l⟩
theorem once_perm {ks xs : List Str} (h : DLS.Once ks xs) : (onceS xs).Perm ks :=
  (List.perm_ext_iff_of_nodup (onceS_nd xs) h.2.2).2 fun k => by rw [onceS_mem, h.1 k]

/-! ### built-ins by name -/
def biName : Bi → Str
  | .len => "len" | .abs => "abs" | .int => "int" | .str => "str" | .tuple => "tuple" | .list => "list" | .set => "set" | .sorted => "sorted" | .all => "all" | .any => "any" | .min => "min" | .max => "max" | .repr => "repr" | .listT => "list"
def biVal : Bi → Value
  | .len => .builtin "len" | .abs => .builtin "abs" | .int => .type "int" | .str => .type "str" | .tuple => .type "tuple" | .list => .type "list" | .set => .type "set" | .sorted => .builtin "sorted" | .all => .builtin "all" | .any => .builtin "any" | .min => .builtin "min" | .max => .builtin "max" | .repr => .builtin "repr" | .listT => .type "list"
theorem bi_boot : ∀ f : Bi, bootBuiltins (biName f) = some (biVal f)
  | .len => boot_len | .abs => by decide +kernel | .int => by decide +kernel | .str => by decide +kernel | .tuple => by decide +kernel | .list => by decide +kernel | .set => by decide +kernel
  | .sorted => by decide +kernel | .all => by decide +kernel | .any => by decide +kernel | .min => by decide +kernel | .max => by decide +kernel | .repr => by decide +kernel | .listT => by decide +kernel
theorem cr_reprB {X : Cx} : CallR X (.builtin "repr") (fun xs H Q => ∃ b : Bool, xs = [.bl b] ∧ Q (.str (if b = true then "True" else "False")) H) := by
  intro pins s σ H xs us Q I r h
  obtain ⟨b, rfl, q⟩ := h
  cases r with
  | cons r rr =>
    cases rr
    cases r
    exact PySem.P.repr_of_bool ⟨.str _, H, I.tok _, ⟨_, rfl⟩, q⟩
section
variable {X : Cx} {W : Wd} {ν : List Addr} {M M' : MS} {g : G} {x y v so : SV} {xs : List SV}
theorem rel1 {sxs : List SV} (r : RelL ν [x] sxs) : ∃ s, sxs = [s] ∧ RelS ν x s := by
  cases r with
  | cons r t => cases t; exact ⟨_, rfl, r⟩
theorem rel2 {sxs : List SV} (r : RelL ν [x, y] sxs) : ∃ s u, sxs = [s, u] ∧ RelS ν x s ∧ RelS ν y u := by
  cases r with
  | cons r t =>
    obtain ⟨u, rfl, r2⟩ := rel1 t
    exact ⟨_, _, rfl, r, r2⟩
/-- the one argument, as it stands -/
theorem rc_one {r : List V → Hp → VK → Prop} {s : SV} {Q : QE} (h : ∀ H v, GOk W H g → RepS W H g s v → ∀ Q' : VK, (∀ v H', PostE W g H Q v H' → Q' v H') → r [v] H Q') : RC W r [s] g Q := fun H vs k rs Q' q' => by
  obtain ⟨v, r', rfl, r1, hr⟩ := rs
  cases (show r' = [] from hr)
  exact h H v k r1 Q' q'
theorem rc_two {r : List V → Hp → VK → Prop} {s u : SV} {Q : QE} (h : ∀ H v w, GOk W H g → RepS W H g s v → RepS W H g u w → ∀ Q' : VK, (∀ v H', PostE W g H Q v H' → Q' v H') → r [v, w] H Q') : RC W r [s, u] g Q := fun H vs k rs Q' q' => by
  obtain ⟨v, r', rfl, r1, w, r'', rfl, r2, hr⟩ := rs
  cases (show r'' = [] from hr)
  exact h H v w k r1 r2 Q' q'
theorem rc_tupL {l : List D} {s : SV} {Q : QE} (hs : LstOf g s (l.map SV.d)) (q : Q (.d (.tup l)) g) : RC W (fun xs H Q => ∃ p ys, xs = [.ref p] ∧ ((SqL W.K H p ys ∧ ∀ l, H l = none → Q (.ref l) (upd H l (.tup ys))) ∨ (SqT W.K H p ys ∧ Q (.ref p) H))) [s] g Q := rc_one fun H v k r Q' q' => by
  obtain ⟨a, ys, rfl, h1, h2⟩ := hs.v k r
  exact ⟨a, ys, rfl, .inl ⟨h1, fun p hp => q' _ _ (post_tup k hp (reps_of h2) q)⟩⟩
theorem rc_listT {l : List D} {s : SV} {Q : QE} (hs : SeqOf g s (l.map SV.d)) (q : Q (.d (.lst l)) g) : RC W (fun xs H Q => ∃ p ys, xs = [.ref p] ∧ (SqL W.K H p ys ∨ SqT W.K H p ys) ∧ ∀ l, H l = none → Q (.ref l) (upd H l (.lst ys))) [s] g Q := rc_one fun H v k r Q' q' => by
  obtain ⟨a, ys, rfl, h1, h2⟩ := hs.v k r
  exact ⟨a, ys, rfl, h1, fun p hp => q' _ _ (post_lst k hp (reps_of h2) q)⟩
theorem rc_setS {l : List Str} {s : SV} {Q : QE} (hs : SeqOf g s ((l.map D.str).map SV.d)) (hl : l.length + 1 < 4096) (q : ∀ a ks, DLS.Once ks l → g a = none → Q (.ob a) (gset g a (.tset ks))) : RC W (DLS.rSetT W.K W.w) [s] g Q := rc_one fun H v k r Q' q' => by
  obtain ⟨p, ys, rfl, h1, h2⟩ := hs.v k r
  rw [reps_strs (reps_of h2)] at h1
  exact ⟨p, l, rfl, h1.symm, hl, fun a ks on ha => q' _ _ ⟨.ob a, gset g a (.tset ks), k.newOb (m := .tset ks) ha upd_same, Ext.newOb ha, rfl, q a ks on (k.free ha)⟩⟩
theorem rc_bls {any : Bool} {l : List Bool} {s : SV} {Q : QE} (hs : LstOf g s ((l.map D.bl).map SV.d)) (q : Q (.d (.bl (if any then l.any id else l.all id))) g) : RC W (fun vs H Q => ∃ (a : Addr) (bs : List Bool), vs = [V.ref a] ∧ SqL W.K H a (bs.map V.bl) ∧ Q (.bl (if any then bs.any id else bs.all id)) H) [s] g Q := rc_one fun H v k r Q' q' => by
  obtain ⟨p, ys, rfl, h1, h2⟩ := hs.v k r
  rw [bls_of (reps_of h2)] at h1
  exact ⟨p, l, rfl, h1, q' _ _ (post_same (r := .d (.bl _)) k rfl q)⟩
theorem lst_bls {l0 : List SV} {l : List Bool} {s : SV} (C : Cfg ν M g) (h0 : lstOf M x = some l0) (h : blsOf M x = some l) (r : RelS ν x s) : LstOf g s ((l.map D.bl).map SV.d) := by
  obtain ⟨ds, h1, h2⟩ := bind_inv h
  obtain ⟨ls, h3, h4⟩ := bind_inv h1
  have e : ls = l0 := by
    have : seqOf M x = lstOf M x := by
      cases x with
      | ob i => rfl
      | d d => cases d <;> first | rfl | (cases h0; done)
    rw [this, h0] at h3; cases h3; rfl
  subst e
  obtain ⟨l', h5, h6⟩ := lstOf_rel C h0 r
  rw [relL_all h6 h4, bls_eq (mapM_inv h2)] at h5
  exact h5
theorem post_strs {l : List Str} {H : Hp} {p : Addr} {Q : QE} (k : GOk W H g) (hp : H p = none) (q : Q (.d (.lst (l.map D.str))) g) : PostE W g H Q (.ref p) (upd H p (.lst (l.map V.str))) :=
  post_lst k hp (by
    have : ∀ l : List Str, Reps W H g (l.map D.str) (l.map V.str) := fun l => by
      induction l with
      | nil => rfl
      | cons s l ih => exact ⟨_, _, rfl, rfl, ih⟩
    exact this l) q
theorem rc_sortS {l : List Str} {s : SV} {Q : QE} (hs : LstOf g s ((l.map D.str).map SV.d)) (hz : l.length < 64) (q : Q (.d (.lst ((sortS l).map D.str))) g) : RC W (rSortedS W.K) [s] g Q := rc_one fun H v k r Q' q' => by
  obtain ⟨a, ys, rfl, h1, h2⟩ := hs.v k r
  rw [reps_strs (reps_of h2)] at h1
  refine ⟨a, l, rfl, h1, hz, fun ms p pm hs hp => ?_⟩
  rw [sorted_uniq hs pm]
  exact q' _ _ (post_strs k hp q)
theorem lst_strs {l : List Str} {s : SV} (C : Cfg ν M g) (h : strsOf M x = some l) (r : RelS ν x s) (hl : ∃ l', LstOf g s l') : LstOf g s ((l.map D.str).map SV.d) := by
  obtain ⟨l', hl⟩ := hl
  have h2 := strsOf_rel C h r
  rcases h2 with h2 | h2 | h2 | h2
  · exact .inl h2
  · obtain ⟨ds, e, _⟩ := h2
    rw [e] at hl
    rcases hl with ⟨_, e2, _⟩ | ⟨_, e2, _⟩ | ⟨_, e2, _⟩ <;> cases e2
  · exact .inr (.inl h2)
  · exact .inr (.inr h2)
theorem bi_ok {f : Bi} (hK : X.K = W.K) (hw : X.w = W.w) (hc : X.calm = true) (h : evBi f M xs = some (v, M')) : ∃ r, CallR X (biVal f) r ∧ ∀ ν g sxs, Cfg ν M g → RelL ν xs sxs → RC W r sxs g (PV ν M g v M') := by
  unfold evBi at h
  split at h
  · obtain ⟨hz, h⟩ := if_inv h
    obtain ⟨rfl, rfl⟩ := ret_inv h
    refine ⟨_, call_len, fun ν g sxs C r => ?_⟩
    obtain ⟨s, rfl, r1⟩ := rel1 r
    rw [relS_d r1, hK]
    exact rc_lenS (by rw [sizeLine_eq]; exact hz) (PV.d C)
  · split at h
    · rename_i i l e
      obtain ⟨rfl, rfl⟩ := ret_inv h
      refine ⟨_, call_len, fun ν g sxs C r => ?_⟩
      obtain ⟨s, rfl, r1⟩ := rel1 r
      obtain ⟨a, u, rfl, ha, hu, ho⟩ := C.obj e r1
      obtain ⟨l', rfl, rl⟩ := relO_lst ho
      rw [hK, plen rl]
      exact rc_len (.inr (.inr (.inl ⟨a, rfl, hu⟩))) (PV.d C)
    · cases h
  · obtain ⟨l, h1, h2⟩ := bind_inv h
    obtain ⟨rfl, rfl⟩ := ret_inv h2
    refine ⟨_, call_len, fun ν g sxs C r => ?_⟩
    obtain ⟨s, rfl, r1⟩ := rel1 r
    obtain ⟨l', h3, h4⟩ := seqOf_rel C h1 r1
    rw [hK, plen h4]
    exact rc_len h3 (PV.d C)
  · obtain ⟨rfl, rfl⟩ := ret_inv h
    refine ⟨_, call_abs, fun ν g sxs C r => ?_⟩
    obtain ⟨s, rfl, r1⟩ := rel1 r
    rw [relS_d r1]
    exact rc_abs (PV.d C)
  · obtain ⟨rfl, rfl⟩ := ret_inv h
    refine ⟨_, call_int1, fun ν g sxs C r => ?_⟩
    obtain ⟨s, rfl, r1⟩ := rel1 r
    rw [relS_d r1]
    exact rc_int (PV.d C)
  · obtain ⟨hz, h⟩ := if_inv h
    obtain ⟨n, h1, h2⟩ := bind_inv h
    obtain ⟨rfl, rfl⟩ := ret_inv h2
    refine ⟨_, call_int_str, fun ν g sxs C r => ?_⟩
    obtain ⟨s, rfl, r1⟩ := rel1 r
    rw [relS_d r1]
    exact rc_one fun H v k r Q' q' => by
      cases (show v = .str _ from r)
      exact ⟨_, n, rfl, h1, hz, q' _ _ (post_same (r := .d (.int n)) k rfl (PV.d C))⟩
  · obtain ⟨hz, h⟩ := if_inv h
    obtain ⟨rfl, rfl⟩ := ret_inv h
    refine ⟨_, call_str_int, fun ν g sxs C r => ?_⟩
    obtain ⟨s, rfl, r1⟩ := rel1 r
    rw [relS_d r1]
    exact rc_one fun H v k r Q' q' => by
      cases (show v = .int _ from r)
      exact ⟨_, rfl, hz, q' _ _ (post_same (r := .d (.str _)) k rfl (PV.d C))⟩
  · obtain ⟨rfl, rfl⟩ := ret_inv h
    refine ⟨_, call_tuple_of, fun ν g sxs C r => ?_⟩
    obtain ⟨s, rfl, r1⟩ := rel1 r
    rw [relS_d r1, hK]
    exact rc_one fun H v k r Q' q' => by
      have r0 := r
      obtain ⟨a, ys, rfl, h1, h2⟩ := r
      exact ⟨a, ys, rfl, .inr ⟨h1.sq, q' _ _ ⟨.d (.tup _), g, k, Ext.refl g H, r0, PV.d C⟩⟩⟩
  · obtain ⟨l, h1, h2⟩ := bind_inv h
    obtain ⟨l0, h3, h4⟩ := bind_inv h1
    obtain ⟨rfl, rfl⟩ := ret_inv h2
    refine ⟨_, call_tuple_of, fun ν g sxs C r => ?_⟩
    obtain ⟨s, rfl, r1⟩ := rel1 r
    obtain ⟨l', h5, h6⟩ := lstOf_rel C h3 r1
    rw [relL_all h6 h4] at h5
    rw [hK]
    exact rc_tupL h5 (PV.d C)
  · obtain ⟨l, h1, h2⟩ := bind_inv h
    unfold EV.new at h2; cases h2
    refine ⟨_, call_list_of, fun ν g sxs C r => ?_⟩
    obtain ⟨s, rfl, r1⟩ := rel1 r
    obtain ⟨l', h5, h6⟩ := seqOf_rel C h1 r1
    rw [hK]
    exact rc_list h5 fun p hp => PV.new C hp h6
  · obtain ⟨l, h1, h2⟩ := bind_inv h
    obtain ⟨hl, h2⟩ := if_inv h2
    unfold EV.new at h2; cases h2
    refine ⟨_, DLS.cr_setT hc, fun ν g sxs C r => ?_⟩
    obtain ⟨s, rfl, r1⟩ := rel1 r
    rw [hK, hw]
    exact rc_setS (strsOf_rel C h1 r1) hl fun p ks on hp => PV.new C hp (once_perm on)
  · split at h
    · rename_i i ks e
      obtain ⟨rfl, rfl⟩ := ret_inv h
      refine ⟨_, DLS.cr_sortedT hc, fun ν g sxs C r => ?_⟩
      obtain ⟨s, rfl, r1⟩ := rel1 r
      obtain ⟨a, u, rfl, ha, hu, ho⟩ := C.obj e r1
      obtain ⟨js, rfl, p⟩ := relO_set ho
      rw [hw]
      refine rc_sortedT hu fun ms pm hs => ?_
      rw [sorted_uniq hs pm, sortS_congr p.symm]
      exact PV.d C
    · rename_i i l e
      obtain ⟨l1, h1, h2⟩ := bind_inv h
      obtain ⟨hz, h2⟩ := if_inv h2
      obtain ⟨rfl, rfl⟩ := ret_inv h2
      refine ⟨_, cr_sortedS, fun ν g sxs C r => ?_⟩
      obtain ⟨s, rfl, r1⟩ := rel1 r
      rw [hK]
      exact rc_sortS (lst_strs C h1 r1 (by
        obtain ⟨a, u, rfl, ha, hu, ho⟩ := C.obj e r1
        obtain ⟨l', rfl, rl⟩ := relO_lst ho
        exact ⟨l', .inr (.inl ⟨a, rfl, hu⟩)⟩)) hz (PV.d C)
    · cases h
  · obtain ⟨l1, h1, h2⟩ := bind_inv h
    obtain ⟨hz, h2⟩ := if_inv h2
    obtain ⟨rfl, rfl⟩ := ret_inv h2
    refine ⟨_, cr_sortedS, fun ν g sxs C r => ?_⟩
    obtain ⟨s, rfl, r1⟩ := rel1 r
    rw [relS_d r1, hK]
    exact rc_sortS (.inl ⟨_, rfl, by rw [strs_eq (mapM_inv h1)]⟩) hz (PV.d C)
  · obtain ⟨l1, h1, h2⟩ := bind_inv h
    obtain ⟨hz, h2⟩ := if_inv h2
    obtain ⟨rfl, rfl⟩ := ret_inv h2
    refine ⟨_, DLS.cr_sortedU, fun ν g sxs C r => ?_⟩
    obtain ⟨s, rfl, r1⟩ := rel1 r
    rw [relS_d r1, hK]
    refine rc_one fun H v k r Q' q' => ?_
    obtain ⟨a, ys, rfl, h3, h4⟩ := r
    rw [strs_eq (mapM_inv h1)] at h4
    rw [reps_strs h4] at h3
    refine ⟨a, _, rfl, h3.sq, hz, fun ms p pm hs hp => ?_⟩
    rw [sorted_uniq hs pm]
    exact q' _ _ (post_strs k hp (PV.d C))
  · obtain ⟨l0, h0, h⟩ := bind_inv h
    obtain ⟨l, h1, h2⟩ := bind_inv h
    obtain ⟨rfl, rfl⟩ := ret_inv h2
    refine ⟨_, cr_all hc, fun ν g sxs C r => ?_⟩
    obtain ⟨s, rfl, r1⟩ := rel1 r
    rw [hK]
    exact rc_bls (any := false) (lst_bls C h0 h1 r1) (PV.d C)
  · obtain ⟨l0, h0, h⟩ := bind_inv h
    obtain ⟨l, h1, h2⟩ := bind_inv h
    obtain ⟨rfl, rfl⟩ := ret_inv h2
    refine ⟨_, cr_any hc, fun ν g sxs C r => ?_⟩
    obtain ⟨s, rfl, r1⟩ := rel1 r
    rw [hK]
    exact rc_bls (any := true) (lst_bls C h0 h1 r1) (PV.d C)
  · obtain ⟨rfl, rfl⟩ := ret_inv h
    refine ⟨_, call_max2 hc, fun ν g sxs C r => ?_⟩
    obtain ⟨s, u, rfl, r1, r2⟩ := rel2 r
    rw [relS_d r1, relS_d r2]
    exact rc_two fun H v w k r r' Q' q' => by
      cases (show v = .int _ from r); cases (show w = .int _ from r')
      exact ⟨_, _, rfl, q' _ _ (post_same (r := .d (.int _)) k rfl (PV.d C))⟩
  · obtain ⟨rfl, rfl⟩ := ret_inv h
    refine ⟨_, call_min2 hc, fun ν g sxs C r => ?_⟩
    obtain ⟨s, u, rfl, r1, r2⟩ := rel2 r
    rw [relS_d r1, relS_d r2]
    exact rc_two fun H v w k r r' Q' q' => by
      cases (show v = .int _ from r); cases (show w = .int _ from r')
      exact ⟨_, _, rfl, q' _ _ (post_same (r := .d (.int _)) k rfl (PV.d C))⟩
  · obtain ⟨rfl, rfl⟩ := ret_inv h
    refine ⟨_, cr_reprB, fun ν g sxs C r => ?_⟩
    obtain ⟨s, rfl, r1⟩ := rel1 r
    rw [relS_d r1]
    exact rc_one fun H v k r Q' q' => by
      cases (show v = .bl _ from r)
      exact ⟨_, rfl, q' _ _ (post_same (r := .d (.str _)) k rfl (PV.d C))⟩
  · obtain ⟨l, h1, h2⟩ := bind_inv h
    obtain ⟨l0, h3, h4⟩ := bind_inv h1
    obtain ⟨rfl, rfl⟩ := ret_inv h2
    refine ⟨_, call_list_of, fun ν g sxs C r => ?_⟩
    obtain ⟨s, rfl, r1⟩ := rel1 r
    obtain ⟨l', h5, h6⟩ := seqOf_rel C h3 r1
    rw [relL_all h6 h4] at h5
    rw [hK]
    exact rc_listT h5 (PV.d C)
  · cases h
end
end EV

set_option autoImplicit false
namespace EV
open PySem PySem.Spec PyProof.Rows L2 DL
def bmName : Bm → Str
  | .append => "append" | .pop => "pop" | .popAt => "pop" | .join => "join" | .split => "split" | .part => "partition" | .rpart => "rpartition" | .starts => "startswith" | .isascii => "isascii" | .isalpha => "isalpha" | .islower => "islower" | .isdecimal => "isdecimal"
  | .add => "add" | .discard => "discard" | .index => "index" | .insert => "insert" | .extend => "extend" | .count => "count" | .rmprefix => "removeprefix" | .replace => "replace"
def bmT (m : Bm) : String := match bmK m with
  | 0 => "list"
  | 2 => "set"
  | _ => "str"
section
variable {X : Cx} {W : Wd} {ν : List Addr} {M M' : MS} {g : G} {x y v o so : SV} {xs : List SV}
theorem rm_none {r : V → List V → Hp → VK → Prop} {s : SV} {Q : QE} (h : ∀ H v, GOk W H g → RepS W H g s v → ∀ Q' : VK, (∀ v H', PostE W g H Q v H' → Q' v H') → r v [] H Q') : RM W r s [] g Q := fun H vx vs k rx rs Q' q' => by
  cases (show vs = [] from rs)
  exact h H vx k rx Q' q'
theorem rm_one {r : V → List V → Hp → VK → Prop} {s u : SV} {Q : QE} (h : ∀ H v w, GOk W H g → RepS W H g s v → RepS W H g u w → ∀ Q' : VK, (∀ v H', PostE W g H Q v H' → Q' v H') → r v [w] H Q') : RM W r s [u] g Q := fun H vx vs k rx rs Q' q' => by
  obtain ⟨v, r', rfl, r1, hr⟩ := rs
  cases (show r' = [] from hr)
  exact h H vx v k rx r1 Q' q'
/-- what bm_ok is to give -/
def BmOk (X : Cx) (W : Wd) (m : Bm) (M : MS) (o : SV) (xs : List SV) (v : SV) (M' : MS) : Prop :=
  ∃ id r, PlainAttrs (bmT m) ∧ Slot (bmT m) (bmName m) id ∧ typeOf (.builtin id) = pure (.type "method_descriptor") ∧ MtR X id r ∧ ∀ ν g so sxs, Cfg ν M g → RelS ν o so → RelL ν xs sxs → RM W r so sxs g (PV ν M g v M')
theorem ps_put {i : Nat} {a : Addr} {o1 o2 u2 : MO} {r sr : SV} (C : Cfg ν M g) (h : EV.obj M i = some o1) (ha : ν[i]? = some a) (ho : RelO ν o2 u2) (rr : RelS ν r sr) : PV ν M g r (put M i o2) sr (gset g a u2) := ⟨ν, Nxt.put C h ha ho, rr⟩
theorem rm_joinS {ys : List Str} {a : Str} {s : SV} {Q : QE} (hs : SeqOf g s ((ys.map D.str).map SV.d)) (hz : (ys.map (·.length)).sum + ys.length * a.length ≤ 16777216) (q : Q (.d (.str (Txt.join a ys))) g) :
    RM W (fun x vs H Q => ∃ a p, ∃ ys : List Str, x = V.str a ∧ vs = [V.ref p] ∧ (SqL W.K H p (ys.map V.str) ∨ SqT W.K H p (ys.map V.str)) ∧ (ys.map (·.length)).sum + ys.length * a.length ≤ 16777216 ∧ Q (.str (Txt.join a ys)) H) (.d (.str a)) [s] g Q := rm_one fun H v w k r1 r2 Q' q' => by
  cases (show v = .str a from r1)
  obtain ⟨p, zs, rfl, h1, h2⟩ := hs.v k r2
  rw [reps_strs (reps_of h2)] at h1
  exact ⟨a, p, ys, rfl, rfl, h1, hz, q' _ _ (post_same (r := .d (.str _)) k rfl q)⟩
theorem bm_ok {m : Bm} (hK : X.K = W.K) (hw : X.w = W.w) (hu : X.A.units + 65 < cLine) (h : evBm m M o xs = some (v, M')) (h2 : bmK m ≠ 2) : BmOk X W m M o xs v M' := by
  unfold evBm at h
  split at h
  · rename_i i v0
    split at h
    · rename_i l e
      obtain ⟨hl, h⟩ := if_inv h
      cases h
      refine ⟨_, _, PySem.F.plainAttrs_list, PySem.F.slot_list_append, PySem.F.type_list_append, mt_append, fun ν g so sxs C ro rs => ?_⟩
      obtain ⟨s, rfl, r1⟩ := rel1 rs
      obtain ⟨a, u, rfl, ha, hu, ho⟩ := C.obj e ro
      obtain ⟨l', rfl, rl⟩ := relO_lst ho
      exact rm_append hu (by rw [← plen rl]; exact hl) (ps_put C e ha (papp rl (.cons r1 .nil)) (show D.non = D.non from rfl))
    · cases h
  · rename_i i
    split at h
    · rename_i l e
      obtain ⟨x, h1, h2⟩ := map_inv h
      cases h2
      refine ⟨_, _, PySem.F.plainAttrs_list, PySem.F.slot_list_pop, PySem.F.type_list_pop, mt_pop, fun ν g so sxs C ro rs => ?_⟩
      cases rs
      obtain ⟨a, u, rfl, ha, hu, ho⟩ := C.obj e ro
      obtain ⟨l', rfl, rl⟩ := relO_lst ho
      obtain ⟨s, hs, rs⟩ := pget rl h1
      exact rm_pop hu (by rw [← plen rl]; exact hs) (ps_put C e ha (pdropLast rl) rs)
    · cases h
  · rename_i i z
    split at h
    · rename_i l e
      obtain ⟨hz, h⟩ := if_inv h
      obtain ⟨j, h1, h2⟩ := bind_inv h
      obtain ⟨x, h3, h4⟩ := map_inv h2
      cases h4
      refine ⟨_, _, PySem.F.plainAttrs_list, PySem.F.slot_list_pop, PySem.F.type_list_pop, mt_popAt, fun ν g so sxs C ro rs => ?_⟩
      obtain ⟨s, rfl, r1⟩ := rel1 rs
      rw [relS_d r1]
      obtain ⟨a, u, rfl, ha, hu, ho⟩ := C.obj e ro
      obtain ⟨l', rfl, rl⟩ := relO_lst ho
      obtain ⟨s, hs, rs⟩ := pget rl h3
      exact rm_popAt hu (by exact hz.1) (by exact hz.2) (by rw [← plen rl]; exact h1) hs (ps_put C e ha (perase j rl) rs)
    · cases h
  · obtain ⟨ys, h1, h2⟩ := bind_inv h
    obtain ⟨hz, h2⟩ := if_inv h2
    obtain ⟨rfl, rfl⟩ := ret_inv h2
    refine ⟨_, _, PySem.F.plainAttrs_str, PySem.F.slot_str_join, PySem.F.type_str_join, mt_join, fun ν g so sxs C ro rs => ?_⟩
    obtain ⟨s, rfl, r1⟩ := rel1 rs
    rw [relS_d ro, hK]
    exact rm_joinS (strsOf_rel C h1 r1) hz (PV.d C)
  · obtain ⟨hz, h⟩ := if_inv h
    obtain ⟨rfl, rfl⟩ := ret_inv h
    refine ⟨_, _, PySem.F.plainAttrs_str, PySem.F.slot_str_split, PySem.F.type_str_split, mt_split, fun ν g so sxs C ro rs => ?_⟩
    obtain ⟨s, rfl, r1⟩ := rel1 rs
    rw [relS_d ro, relS_d r1]
    exact rm_split (by simp; omega) (by rw [sizeLine_eq]; exact hz.2) (PV.d C)
  · obtain ⟨hz, h⟩ := if_inv h
    obtain ⟨rfl, rfl⟩ := ret_inv h
    refine ⟨_, _, PySem.F.plainAttrs_str, PySem.F.slot_str_partition, PySem.F.type_str_partition, mt_partition, fun ν g so sxs C ro rs => ?_⟩
    obtain ⟨s, rfl, r1⟩ := rel1 rs
    rw [relS_d ro, relS_d r1]
    exact rm_part (f := Txt.partition) (by simp; omega) (by rw [sizeLine_eq]; exact hz.2) (PV.d C)
  · obtain ⟨hz, h⟩ := if_inv h
    obtain ⟨rfl, rfl⟩ := ret_inv h
    refine ⟨_, _, PySem.F.plainAttrs_str, PySem.F.slot_str_rpartition, PySem.F.type_str_rpartition, mt_rpartition, fun ν g so sxs C ro rs => ?_⟩
    obtain ⟨s, rfl, r1⟩ := rel1 rs
    rw [relS_d ro, relS_d r1]
    exact rm_part (f := rpart) (by simp; omega) (by rw [sizeLine_eq]; exact hz.2) (PV.d C)
  · obtain ⟨rfl, rfl⟩ := ret_inv h
    refine ⟨_, _, PySem.F.plainAttrs_str, PySem.F.slot_str_startswith, PySem.F.type_str_startswith, mt_startswith, fun ν g so sxs C ro rs => ?_⟩
    obtain ⟨s, rfl, r1⟩ := rel1 rs
    rw [relS_d ro, relS_d r1]
    exact rm_starts (PV.d C)
  · obtain ⟨rfl, rfl⟩ := ret_inv h
    refine ⟨_, _, PySem.F.plainAttrs_str, PySem.F.slot_str_isascii, PySem.F.type_str_isascii, mt_isascii, fun ν g so sxs C ro rs => ?_⟩
    cases rs
    rw [relS_d ro]
    exact rm_is (f := Txt.isascii) (PV.d C)
  · obtain ⟨rfl, rfl⟩ := ret_inv h
    refine ⟨_, _, PySem.F.plainAttrs_str, PySem.F.slot_str_isalpha, PySem.F.type_str_isalpha, mt_isalpha, fun ν g so sxs C ro rs => ?_⟩
    cases rs
    rw [relS_d ro]
    exact rm_is (f := Txt.isalpha) (PV.d C)
  · obtain ⟨rfl, rfl⟩ := ret_inv h
    refine ⟨_, _, PySem.F.plainAttrs_str, PySem.F.slot_str_islower, PySem.F.type_str_islower, mt_islower, fun ν g so sxs C ro rs => ?_⟩
    cases rs
    rw [relS_d ro]
    exact rm_is (f := Txt.islower) (PV.d C)
  · obtain ⟨rfl, rfl⟩ := ret_inv h
    refine ⟨_, _, PySem.F.plainAttrs_str, PySem.F.slot_str_isdecimal, PySem.F.type_str_isdecimal, mt_isdecimal, fun ν g so sxs C ro rs => ?_⟩
    cases rs
    rw [relS_d ro]
    exact rm_is (f := Txt.isdecimal) (PV.d C)
  · exact absurd rfl h2
  · exact absurd rfl h2
  · rename_i i v0
    split at h
    · rename_i l e
      split at h
      · rename_i m
        obtain ⟨hl, h⟩ := if_inv h
        cases h
        refine ⟨_, _, PySem.F.plainAttrs_list, PySem.F.slot_list_extend, PySem.F.type_list_extend, mt_extend, fun ν g so sxs C ro rs => ?_⟩
        obtain ⟨s, rfl, r1⟩ := rel1 rs
        rw [relS_d r1]
        obtain ⟨a, u, rfl, ha, hu, ho⟩ := C.obj e ro
        obtain ⟨l', rfl, rl⟩ := relO_lst ho
        refine rm_one fun H v w k ra rb Q' q' => ?_
        cases (show v = .ref a from ra)
        obtain ⟨b, zs, rfl, h1, h2⟩ := rb
        obtain ⟨xs, hx, rx⟩ := k a _ hu
        have e3 : Ext g H (gset g a (.lst (l' ++ m.map SV.d))) (upd H a (.lst (xs ++ zs))) := Ext.mut hu
        have k3 : GOk W (upd H a (.lst (xs ++ zs))) (gset g a (.lst (l' ++ m.map SV.d))) := k.mut hu ⟨_, upd_same, (rx.append (reps_to h2)).ext e3⟩
        refine ⟨a, b, xs, zs, rfl, rfl, hx, h1.1, ?_, q' _ _ ⟨.d .non, _, k3, e3, rfl, ps_put C e ha (papp rl (relL_dd m)) (show D.non = D.non from rfl)⟩⟩
        rw [sizeLine_eq, ← rx.length, ← plen rl, ← h2.length]; omega
      · cases h
    · cases h
  · obtain ⟨hz, h⟩ := if_inv h
    obtain ⟨rfl, rfl⟩ := ret_inv h
    refine ⟨_, _, PySem.F.plainAttrs_str, PySem.F.slot_str_removeprefix, PySem.F.type_str_removeprefix, mt_removeprefix, fun ν g so sxs C ro rs => ?_⟩
    obtain ⟨s, rfl, r1⟩ := rel1 rs
    rw [relS_d ro, relS_d r1]
    refine rm_one fun H v w k ra rb Q' q' => ?_
    cases (show v = .str _ from ra); cases (show w = .str _ from rb)
    exact ⟨_, _, rfl, rfl, by rw [sizeLine_eq]; exact hz, q' _ _ (post_same (r := .d (.str _)) k rfl (PV.d C))⟩
  · rename_i x0
    obtain ⟨l, h1, h2⟩ := bind_inv h
    obtain ⟨l0, h3, h4⟩ := bind_inv h2
    split at h4
    · rename_i p qs hp hq
      obtain ⟨hs, h4⟩ := if_inv h4
      obtain ⟨j, h5, h6⟩ := bind_inv h4
      obtain ⟨rfl, rfl⟩ := ret_inv h6
      obtain ⟨s1, s2⟩ := Bool.and_eq_true_iff.mp hs
      refine ⟨_, _, PySem.F.plainAttrs_list, PySem.F.slot_list_index, PySem.F.type_list_index, mt_indexD hu, fun ν g so sxs C ro rs => ?_⟩
      obtain ⟨s, rfl, r1⟩ := rel1 rs
      rw [relS_d r1]
      obtain ⟨l', h7, h8⟩ := lstOf_rel C h1 ro
      rw [relL_all h8 h3] at h7
      obtain ⟨hj, hz, hno⟩ := List.findIdx?_eq_some_iff_getElem.mp h5
      refine rm_one fun H v w k ra rb Q' q' => ?_
      obtain ⟨a, zs, rfl, h9, h10⟩ := h7.v k ra
      rw [hK]
      refine ⟨a, w, p, qs, j, qs[j], rfl, rfl, .lst h9 (dps_of _ _ _ (reps_of h10) hq), dp_of _ _ _ rb hp, s2, s1, List.getElem?_eq_getElem hj, hz, fun m z' hm hm' => ?_, q' _ _ (post_same (r := .d (.int _)) k rfl (PV.d C))⟩
      have e : qs[m]'(by omega) = z' := by
        rw [List.getElem?_eq_getElem (by omega)] at hm'
        exact Option.some.inj hm'
      rw [← e]
      simpa using hno m hm
    · cases h4
  · cases h
/-- a set's methods -/
theorem bmS_ok {m : Bm} (hw : X.w = W.w) (h : evBm m M o xs = some (v, M')) (h2 : bmK m = 2) :
    ∃ id r, Slot "set" (bmName m) id ∧ typeOf (.builtin id) = pure (.type "method_descriptor") ∧ MtR X id r ∧ ∀ ν g so sxs, Cfg ν M g → RelS ν o so → RelL ν xs sxs → RM W r so sxs g (PV ν M g v M') := by
  cases m <;> first | (exfalso; revert h2; decide) | skip
  · unfold evBm at h
    split at h <;> first | cases ‹Bm.add = _› | skip
    · rename_i i k
      split at h
      · rename_i ks e
        obtain ⟨hl, h⟩ := if_inv h
        cases h
        refine ⟨_, _, PySem.F.slot_set_add, PySem.F.type_set_add, DLS.mt_addT, fun ν g so sxs C ro rs => ?_⟩
        obtain ⟨s, rfl, r1⟩ := rel1 rs
        rw [relS_d r1, hw]
        obtain ⟨a, u, rfl, ha, hu, ho⟩ := C.obj e ro
        obtain ⟨js, rfl, p⟩ := relO_set ho
        refine rm_addT hu (by rw [← p.length_eq]; exact hl) fun ks2 q => ps_put C e ha ?_ (show D.non = D.non from rfl)
        show (if k ∈ ks then ks else k :: ks).Perm ks2
        by_cases hk : k ∈ ks
        · rw [if_pos hk]
          rw [if_pos (p.mem_iff.mp hk)] at q
          rw [q]; exact p
        · rw [if_neg hk]
          rw [if_neg (fun z => hk (p.mem_iff.mpr z))] at q
          exact (p.cons k).trans q.symm
      · cases h
    · cases h
  · unfold evBm at h
    split at h <;> first | cases ‹Bm.discard = _› | skip
    · rename_i i k
      split at h
      · rename_i ks e
        cases h
        refine ⟨_, _, PySem.F.slot_set_discard, PySem.F.type_set_discard, DLS.mt_disT, fun ν g so sxs C ro rs => ?_⟩
        obtain ⟨s, rfl, r1⟩ := rel1 rs
        rw [relS_d r1, hw]
        obtain ⟨a, u, rfl, ha, hu, ho⟩ := C.obj e ro
        obtain ⟨js, rfl, p⟩ := relO_set ho
        exact rm_disT hu fun ks2 q => ps_put C e ha (show (ks.filter fun j => decide (j ≠ k)).Perm ks2 from (p.filter _).trans q.symm) (show D.non = D.non from rfl)
      · cases h
    · cases h
end
end EV

set_option autoImplicit false
/-! expressions: what the small machine does is what the text does -/
namespace EV
open PySem PySem.Spec PyProof.Rows L2 DL

structure DefI where
  x : Str
  qual : Str
  st : Stmt
  N : List Str
  ps : List Str
  dvs : List D
  ir : IBs
  at_ : Str × Option Str
  dfl : List He.Dv := []
  cm : Bool := false
  pr : Bool := false
def DefI.df (d : DefI) : Df := ⟨d.ps.length, d.N.length, d.ir⟩
/-- a call with keywords: the def, 1 if self comes ahead, how many by place, the names, where each parameter comes from -/
structure KB where
  f : Nat
  self : Nat
  n : Nat
  ks : List Str
  src : List (Nat ⊕ Nat)
  deriving DecidableEq
/-- the text's defs, classes, constants -/
structure Tab where
  defs : List DefI
  globs : List (Str × Nat)
  bnds : List (Nat × Nat)
  cn : List Str
  inits : List (Nat × Nat)
  meths : List (Nat × Str × Nat)
  flds : List (Nat × Str)
  clss : List Nat
  free : List Str
  kons : List (Str × D)
  cmets : List (Nat × Str × Nat) := []
  props : List (Nat × Str × Nat) := []
  kbnds : List KB := []
  cints : List (Str × Int) := []
/-- the classes, by name -/
def Tab.cnames (T : Tab) : List (Str × Nat) := T.cn.zipIdx
def Tab.dfs (T : Tab) : List Df := T.defs.map DefI.df
/-- where the defs stand -/
structure Adr where
  fa : Nat → Addr
  fd : Nat → FuncData
def dfl (d : DefI) (n : Nat) : List D := d.dvs.drop (n + d.dvs.length - d.ps.length)
def tyVal (W : Wd) : Ty → Value
  | .non => .type "NoneType" | .bl => .type "bool" | .int => .type "int" | .str => .type "str" | .lst => .type "list" | .tup => .type "tuple" | .cls c => .ref (W.cl c)
def tyIn (T : Tab) : Ty → Prop
  | .cls c => c ∈ T.clss
  | _ => True
structure Fct (T : Tab) (A : Adr) (W : Wd) (mg : Str → Option Value) : Prop where
  fn : ∀ i d, T.defs[i]? = some d → ∃ dvs, FunD W.K d.x d.qual (defArgs d.st) (defBody d.st) (defScope d.st) dvs [] (A.fa i) (A.fd i)
  glob : ∀ x i, (x, i) ∈ T.globs → mg x = some (.ref (A.fa i)) ∧ PySem.W.keepIn W.K (.ref (A.fa i)) = true
  bnd : ∀ i n d, (i, n) ∈ T.bnds → T.defs[i]? = some d → ∃ dvs ds, Vals dvs ds ∧ Binds W.K (A.fd i) d.ps ds ∧ DefV W ((dfl d n).map SV.d) dvs ∧ n + (dfl d n).length = d.ps.length
  cname : ∀ x c, (x, c) ∈ T.cnames → mg x = some (.ref (W.cl c)) ∧ PySem.W.keepIn W.K (.ref (W.cl c)) = true
  init : ∀ c i, (c, i) ∈ T.inits → Mk W.K (W.cl c) (A.fa i)
  meth : ∀ c m i, (c, m, i) ∈ T.meths → Meth W.K (W.cl c) m (A.fa i)
  fld : ∀ c f, (c, f) ∈ T.flds → NoAttr W.K (W.cl c) f
  cls : ∀ c, c ∈ T.clss → InsC W.K (W.cl c)
  free : ∀ x, x ∈ T.free → mg x = none
  kon : ∀ x d, (x, d) ∈ T.kons → ∃ v u, mg x = some u ∧ RelV v u ∧ ∀ H g, GOk W H g → Rep W H g d v
  kint : ∀ x i, (x, i) ∈ T.cints → ∃ t, mg x = some (.int i t)
  cmet : ∀ c m i, (c, m, i) ∈ T.cmets → ClX.CRead W.K (W.cl c) (.type "type") ∧ ∃ p, ClX.CMet W.K (W.cl c) (.type "type") m p (A.fa i)
  prop : ∀ c m i, (c, m, i) ∈ T.props → ∃ p, PropOf W.K (W.cl c) m p (A.fa i)
  kbnd : ∀ b d, b ∈ T.kbnds → T.defs[b.f]? = some d → ∃ dvs its, KBn W.K (A.fd b.f) d.ps (b.self + b.n) b.ks (fun us ws => us.take b.self ++ arr b.src (us.drop b.self ++ ws) its) (fun vs zs => vs.take b.self ++ arr b.src (vs.drop b.self ++ zs) dvs) ∧ DefV W (d.dvs.map SV.d) dvs
  kit : ∀ t u, tyIn T t → tyIn T u → PySem.W.kitOne W.K (tyVal W t) (tyVal W u) = some (sub1 t u)
/-- a def's promise, by what the small machine makes of its arguments -/
def spF (F : List SV → MS → R) : SpD := fun svs g Q => ∃ ν M xs v M', Cfg ν M g ∧ RelL ν xs svs ∧ F xs M = some (v, M') ∧ ∀ sv g', PV ν M g v M' sv g' → Q sv g'
structure CC where
  N : List Str
  sc : Scope
  df : Bool
structure Good (T : Tab) (A : Adr) (W : Wd) (C : CC) (k : Nat) (X : Cx) : Prop where
  hK : X.K = W.K
  hw : X.w = W.w
  N : X.N = C.N
  nd : X.N.Nodup
  sc : X.env.scope = C.sc
  calm : X.calm = true
  room : Room (4 * k + 3) X.A
  xe : X.xe = fun _ _ => False
  fnc : C.df = true → ∀ x, X.fn x = true
  fct : Fct T A W X.mg
  snd : ∀ i d, T.defs[i]? = some d → FnOk X.prog X.w X.K X.mg X.base CX0 (4 * k) (A.fa i) (A.fd i) d.ps (liftSp W d.ps.length (spF (callK T.dfs k i)))
section
variable (T : Tab) (A : Adr) (W : Wd) (C : CC)
def SE (e : Expr) (r : IE) : Prop := ∀ k X, Good T A W C k X → ∀ ρ M v M', evE (callK T.dfs k) r ρ M = some (v, M') → ∀ ν g ρR, Cfg ν M g → RelR ν ρ ρR → WE X W e ρR g (PV ν M g v M')
def ST (e : Expr) (r : IT) : Prop := ∀ k X, Good T A W C k X → ∀ ρ M b M', evT (callK T.dfs k) r ρ M = some (b, M') → ∀ ν g ρR, Cfg ν M g → RelR ν ρ ρR → WT X W e ρR g (PB ν M g b M')
def SW (e : Expr) (r : IT) : Prop := ∀ k X, Good T A W C k X → ∀ ρ M b M', evT (callK T.dfs k) r ρ M = some (b, M') → ∀ ν g ρR, Cfg ν M g → RelR ν ρ ρR → WW X W e ρR g (PB ν M g b M')
def SA (es : List Expr) (r : IAs) : Prop := ∀ k X, Good T A W C k X → ∀ ρ M vs M', evA (callK T.dfs k) r ρ M = some (vs, M') → ∀ ν g ρR, Cfg ν M g → RelR ν ρ ρR → WA X W es ρR g (PL ν M g vs M')
end
def lenA : IAs → Nat
  | .nil => 0
  | .cons _ as => lenA as + 1
theorem evA_len {c : Call} : ∀ {as : IAs} {ρ : Rho} {M M' : MS} {vs : List SV}, evA c as ρ M = some (vs, M') → vs.length = lenA as
  | .nil, ρ, M, M', vs, h => by unfold evA at h; cases h; rfl
  | .cons a as, ρ, M, M', vs, h => by
    unfold evA at h
    obtain ⟨⟨x, M1⟩, h1, h2⟩ := bind_inv h
    obtain ⟨⟨xs, M2⟩, h3, h4⟩ := bind_inv h2
    cases h4
    exact congrArg (· + 1) (evA_len h3)

/-! ### what a text's form must be -/
def nsB : Expr → Bool
  | .Starred .. => false
  | _ => true
theorem star_ns {e : Expr} {es : List Expr} {env : Env} (h : nsB e = true) : starEach (e :: es) env = (false, eval e env) :: starEach es env := by
  cases e <;> first | rfl | cases h
theorem star_all : ∀ {es : List Expr} {env : Env} {pos : Pos}, es.all nsB = true → (backTo pos (starEach es env)).any (·.1) = false
  | [], _, _, _ => rfl
  | e :: es, env, pos, h => by
    obtain ⟨h1, h2⟩ := Bool.and_eq_true_iff.mp (show (nsB e && es.all nsB) = true from h)
    rw [star_ns h1]
    show (false || (backTo pos (starEach es env)).any (·.1)) = false
    rw [star_all h2]; rfl
def baseB : Expr → Bool
  | .Call (.Name _ _) [] [] _ => false
  | _ => true
theorem base_eq {o : Expr} {a : Str} {env : Env} {w : Sem Value} (h : baseB o = true) : attributeBase o a env w = w := by
  unfold attributeBase
  split
  · cases h
  · rfl
def tvB : Expr → Bool
  | .UnaryOp .Not _ _ => false
  | .BoolOp .. => false
  | .IfExp .. => false
  | .Compare .. => false
  | _ => true
theorem tv_eq {e : Expr} {env : Env} (h : tvB e = true) (whole : Sem Value) : isTrue e env whole = (do let v ← whole; standAt e.pos; holding [v] (truthy v)) := by
  cases e <;> first | rfl | cases h | skip
  rename_i op x p
  cases op <;> first | rfl | cases h
def svB : Expr → Bool
  | .ListComp .. => false
  | .SetComp .. => false
  | .DictComp .. => false
  | _ => true
theorem sv_eq {e : Expr} {t : Option Expr} {l : Nat} {env : Env} (h : svB e = true) : swapsWith e t l env = pure false := by
  cases e <;> first | rfl | cases h
def stB : Expr → Bool
  | .Set .. => false
  | _ => true
theorem fold_eq {e : Expr} {env : Env} (h : stB e = true) (x : Value) : foldedSetIterable e env x = pure x := by
  cases e <;> first | rfl | cases h
theorem mark_eq {e : Expr} {op : CmpOp} (h : stB e = true) : behindInMarks op e = false := by
  cases e <;> first | rfl | cases h
theorem last_eq {a b : Expr} {o1 o2 : CmpOp} (h : stB b = true) : lastMarks [o1, o2] [a, b] = false := by
  show lastMarks [o2] [b] = false
  exact mark_eq h
def slB : Expr → Bool
  | .Slice .. => false
  | _ => true
theorem plain_ix {b : Expr} (h : slB b = true) : PlainIx b := fun o i => by
  cases b <;> first | rfl | cases h
def seen : Option NameKind → Bool
  | some .local => true
  | some .cell => true
  | some .free => true
  | _ => false
def nameB (C : CC) (i : Nat) (x : Str) : Bool := decide (C.N[i]? = some x) && (seen (C.sc.names.lookup x) && (!(x == ("__debug__" : Str)) && !(x == ("__classdict__" : Str))))
def globB (C : CC) (x : Str) : Bool := decide (C.sc.names.lookup x = some .globalImplicit) && !(x == ("__debug__" : Str))
section
variable {T : Tab} {A : Adr} {W : Wd} {C : CC} {k : Nat} {X : Cx}
theorem Good.hu (G : Good T A W C k X) : X.A.units + 65 < cLine := by have := G.room.un; omega
theorem Good.vis (G : Good T A W C k X) {i : Nat} {x : Str} (h : nameB C i x = true) : X.N[i]? = some x ∧ Vis X.env.scope x ∧ (x == ("__debug__" : Str)) = false ∧ (x == ("__classdict__" : Str)) = false := by
  unfold nameB at h
  obtain ⟨h1, h⟩ := Bool.and_eq_true_iff.mp h
  obtain ⟨h2, h⟩ := Bool.and_eq_true_iff.mp h
  obtain ⟨h3, h4⟩ := Bool.and_eq_true_iff.mp h
  refine ⟨by rw [G.N]; exact of_decide_eq_true h1, ?_, by simpa using h3, by simpa using h4⟩
  rw [G.sc]
  unfold Vis
  revert h2
  cases C.sc.names.lookup x with
  | none => intro h; cases h
  | some kd => cases kd <;> intro h <;> first | exact .inl rfl | exact .inr (.inl rfl) | exact .inr (.inr rfl) | cases h
theorem Good.gl (G : Good T A W C k X) {x : Str} (h : globB C x = true) : Gl X x ∧ (x == ("__debug__" : Str)) = false := by
  unfold globB at h
  obtain ⟨h1, h2⟩ := Bool.and_eq_true_iff.mp h
  refine ⟨?_, by simpa using h2⟩
  show X.env.scope.names.lookup x = some .globalImplicit
  rw [G.sc]
  exact of_decide_eq_true h1
variable {pos : Pos} {a b e o : Expr} {es : List Expr} {ra rb rc : IE} {ras : IAs}
theorem relP_some {ν : List Addr} {ρ ρR : Rho} {i : Nat} {v : SV} (r : RelR ν ρ ρR) (h : ρ[i]? = some (some v)) : ∃ s, ρR[i]? = some (some s) ∧ RelS ν v s := by
  obtain ⟨y, h1, h2⟩ := pget r h
  cases y with
  | none => exact False.elim h2
  | some s => exact ⟨s, h1, h2⟩
theorem se_var {i : Nat} {x : Str} (h : nameB C i x = true) : SE T A W C (.Name x pos) (.var i) := fun k X G ρ M v M' he ν g ρR Cf R => by
  obtain ⟨h1, h2, h3, h4⟩ := G.vis h
  unfold evE at he
  split at he
  · rename_i v0 hv
    cases he
    obtain ⟨s, hs, rs⟩ := relP_some R hv
    exact we_name i hs ⟨ν, Nxt.refl Cf, rs⟩ h1 h2 h3 h4
  · cases he
theorem cst_inv {c : Call} {d : D} {ρ : Rho} {M M' : MS} {v : SV} (h : evE c (.cst d) ρ M = some (v, M')) : v = .d d ∧ M' = M := by
  unfold evE at h; exact ret_inv h
theorem se_int {i : Int} {j : Nat} : SE T A W C (.Constant (.int i) j pos) (.cst (.int i)) := fun k X G ρ M v M' he ν g ρR Cf R => by
  obtain ⟨rfl, rfl⟩ := cst_inv he; exact we_int (PV.d Cf)
theorem se_bl {i : Bool} {j : Nat} : SE T A W C (.Constant (.bool i) j pos) (.cst (.bl i)) := fun k X G ρ M v M' he ν g ρR Cf R => by
  obtain ⟨rfl, rfl⟩ := cst_inv he; exact we_bl (PV.d Cf)
theorem se_non {j : Nat} : SE T A W C (.Constant .none j pos) (.cst .non) := fun k X G ρ M v M' he ν g ρR Cf R => by
  obtain ⟨rfl, rfl⟩ := cst_inv he; exact we_non (PV.d Cf)
theorem se_str {i : Str} {j : Nat} : SE T A W C (.Constant (.str i) j pos) (.cst (.str i)) := fun k X G ρ M v M' he ν g ρR Cf R => by
  obtain ⟨rfl, rfl⟩ := cst_inv he; exact we_str (PV.d Cf)
theorem se_kon {x : Str} {d : D} (h : globB C x = true) (hk : (x, d) ∈ T.kons) : SE T A W C (.Name x pos) (.cst d) := fun k X G ρ M v M' he ν g ρR Cf R => by
  obtain ⟨rfl, rfl⟩ := cst_inv he
  obtain ⟨hg, hd⟩ := G.gl h
  obtain ⟨w, u, hm, r, rs⟩ := G.fct.kon x d hk
  exact we_glob (sv := .d d) hg hm r (fun H ok => rs H g ok) (PV.d Cf) hd
theorem se_konI {x : Str} {i : Int} (h : globB C x = true) (hk : (x, i) ∈ T.cints) : SE T A W C (.Name x pos) (.cst (.int i)) := fun k X G ρ M v M' he ν g ρR Cf R => by
  obtain ⟨rfl, rfl⟩ := cst_inv he
  obtain ⟨hg, hd⟩ := G.gl h
  obtain ⟨t, hm⟩ := G.fct.kint x i hk
  exact we_glob (v := .int i) (sv := .d (.int i)) hg hm ⟨t, rfl⟩ (fun H ok => rfl) (PV.d Cf) hd
theorem se_cls {x : Str} {c : Nat} (h : globB C x = true) (hk : (x, c) ∈ T.cnames) : SE T A W C (.Name x pos) (.cst (.cls c)) := fun k X G ρ M v M' he ν g ρR Cf R => by
  obtain ⟨rfl, rfl⟩ := cst_inv he
  obtain ⟨hg, hd⟩ := G.gl h
  obtain ⟨hm, _⟩ := G.fct.cname x c hk
  exact we_glob (v := .ref (W.cl c)) (sv := .d (.cls c)) hg hm rfl (fun H ok => rfl) (PV.d Cf) hd
theorem se_bin {op : BOp} (ha : SE T A W C a ra) (hb : SE T A W C b rb) : SE T A W C (.BinOp a (opOf op) b pos) (.bin op ra rb) := fun k X G ρ M v M' he ν g ρR Cf R => by
  unfold evE at he
  obtain ⟨⟨x, M1⟩, h1, h2⟩ := bind_inv he
  obtain ⟨⟨y, M2⟩, h3, h4⟩ := bind_inv h2
  obtain ⟨r, hr, hw⟩ := bin_ok (X := X) G.hK h4
  refine we_op hr ((ha k X G ρ M x M1 h1 ν g ρR Cf R).imp fun sx g1 ⟨ν1, N1, r1⟩ => (hb k X G ρ M1 y M2 h3 ν1 g1 ρR N1.cfg (N1.rr R)).imp fun sy g2 ⟨ν2, N2, r2⟩ => ?_)
  intro H vx vy k1 rx ry Q' q'
  exact hw ν2 g2 sx sy N2.cfg (N2.rs r1) r2 H vx vy k1 rx ry Q' fun v' H' z => q' v' H' (z.imp fun s g' p => (p.back N2).back N1)
theorem _root_.DL.RU.imp {r : V → Hp → VK → Prop} {x : SV} {g : G} {Q Q1 : QE} (h : RU W r x g Q) (q : ∀ s g', Q s g' → Q1 s g') : RU W r x g Q1 := fun H vx k rx Q' q' => h H vx k rx Q' fun v H' z => q' v H' (z.imp q)
theorem _root_.DL.RW.imp {r : R2} {x y : SV} {g : G} {Q Q1 : QE} (h : RW W r x y g Q) (q : ∀ s g', Q s g' → Q1 s g') : RW W r x y g Q1 := fun H vx vy k rx ry Q' q' => h H vx vy k rx ry Q' fun v H' z => q' v H' (z.imp q)
theorem _root_.DL.RC.imp {r : List V → Hp → VK → Prop} {x : List SV} {g : G} {Q Q1 : QE} (h : RC W r x g Q) (q : ∀ s g', Q s g' → Q1 s g') : RC W r x g Q1 := fun H vx k rx Q' q' => h H vx k rx Q' fun v H' z => q' v H' (z.imp q)
theorem _root_.DL.RM.imp {r : V → List V → Hp → VK → Prop} {x : SV} {xs : List SV} {g : G} {Q Q1 : QE} (h : RM W r x xs g Q) (q : ∀ s g', Q s g' → Q1 s g') : RM W r x xs g Q1 := fun H vx vs k rx rs Q' q' => h H vx vs k rx rs Q' fun v H' z => q' v H' (z.imp q)
theorem _root_.DL.WT.imp {e : Expr} {ρ : Rho} {g : G} {Q Q1 : Bool → G → Prop} (k : WT X W e ρ g Q) (h : ∀ r g', Q r g' → Q1 r g') : WT X W e ρ g Q1 := fun σ H S Q' q => k σ H S Q' fun v H' ⟨g', a, b, c⟩ => q v H' ⟨g', a, b, h _ _ c⟩
theorem _root_.DL.WW.imp {e : Expr} {ρ : Rho} {g : G} {Q Q1 : Bool → G → Prop} (k : WW X W e ρ g Q) (h : ∀ r g', Q r g' → Q1 r g') : WW X W e ρ g Q1 := fun σ H S Q' q => k σ H S Q' fun v H' ⟨g', a, b, c⟩ => q v H' ⟨g', a, b, h _ _ c⟩
theorem _root_.DL.WA.imp {es : List Expr} {ρ : Rho} {g : G} {Q Q1 : List SV → G → Prop} (k : WA X W es ρ g Q) (h : ∀ r g', Q r g' → Q1 r g') : WA X W es ρ g Q1 := fun σ H S Q' q => k σ H S Q' fun v H' ⟨r, g', a, b, c, d⟩ => q v H' ⟨r, g', a, b, c, h _ _ d⟩
theorem se_neg (ha : SE T A W C a ra) : SE T A W C (.UnaryOp .USub a pos) (.neg ra) := fun k X G ρ M v M' he ν g ρR Cf R => by
  unfold evE at he
  obtain ⟨⟨x, M1⟩, h1, h2⟩ := bind_inv he
  dsimp only at h2
  split at h2
  · obtain ⟨rfl, rfl⟩ := ret_inv h2
    refine we_un un_neg ((ha k X G ρ M _ _ h1 ν g ρR Cf R).imp fun sx g1 ⟨ν1, N1, r1⟩ => ?_)
    rw [relS_d r1]
    exact ru_neg ((PV.d N1.cfg).back N1)
  · cases h2
/-- truth -/
theorem tru_v {M : MS} {x sx : SV} {b : Bool} {ν : List Addr} {g : G} {H : Hp} {vv : V} (Cf : Cfg ν M g) (h : tru M x = some b) (r : RelS ν x sx) (k : GOk W H g) (rr : RepS W H g sx vv) : TruV W.K vv H b := by
  cases x with
  | d d =>
    rw [relS_d r] at rr
    have rr : Rep W H g d vv := rr
    cases d <;> first | (cases h; exact TruD.v rr rfl) | skip
    · obtain ⟨hz, h⟩ := if_inv (show (if _ then _ else none) = some b from h)
      cases h
      exact TruD.v rr ⟨by rw [sizeLine_eq]; exact hz, rfl⟩
    · cases h
    · cases h
  | ob i =>
    change (match obj M i with | some (.lst l) => some (!l.isEmpty) | _ => none) = some b at h
    split at h
    · rename_i l e
      cases h
      obtain ⟨a, u, rfl, ha, hu, ho⟩ := Cf.obj e r
      obtain ⟨l', rfl, rl⟩ := relO_lst ho
      obtain ⟨xs, hx, rx⟩ := k a _ hu
      cases (show vv = .ref a from rr)
      refine .inl ⟨xs, .inl (.inl hx), ?_⟩
      have e1 := plen rl
      have e2 := rx.length
      cases l <;> cases l' <;> cases xs <;> first | rfl | (simp at e1; done) | (simp at e2; done)
    · cases h
end
end EV

set_option autoImplicit false
namespace EV
open PySem PySem.Spec PyProof.Rows L2 DL
section
variable {T : Tab} {A : Adr} {W : Wd} {C : CC}
variable {pos p apos : Pos} {a b e o : Expr} {es : List Expr} {ra rb rc re : IE} {ras : IAs} {ta tb : IT}
theorem se_not (ha : SE T A W C a ra) : SE T A W C (.UnaryOp .Not a pos) (.not ra) := fun k X G ρ M v M' he ν g ρR Cf R => by
  unfold evE at he
  obtain ⟨⟨x, M1⟩, h1, h2⟩ := bind_inv he
  obtain ⟨t, h3, h4⟩ := bind_inv h2
  obtain ⟨rfl, rfl⟩ := ret_inv h4
  intro σ H S Q' q'
  refine ts_of (pe_notT pe_s) ?_
  refine ha k X G ρ M x _ h1 ν g ρR Cf R σ H S _ fun vv H1 ⟨sv, g1, k1, e1, rr, ν1, N1, r1⟩ => ?_
  exact ⟨t, by rw [G.hK]; exact tru_v N1.cfg h3 r1 k1 rr, q' _ _ ⟨.d (.bl (!t)), g1, k1, e1, rfl, ν1, N1, rfl⟩⟩
theorem se_one {op : BoolOp} (ha : SE T A W C a ra) : SE T A W C (.BoolOp op [a] pos) ra := fun k X G ρ M v M' he ν g ρR Cf R => we_one (ha k X G ρ M v M' he ν g ρR Cf R)
theorem se_and (ha : SE T A W C a ra) (hb : SE T A W C (.BoolOp .And (b :: es) pos) rb) : SE T A W C (.BoolOp .And (a :: b :: es) pos) (.and ra rb) := fun k X G ρ M v M' he ν g ρR Cf R => by
  unfold evE at he
  obtain ⟨⟨x, M1⟩, h1, h2⟩ := bind_inv he
  obtain ⟨t, h3, h4⟩ := bind_inv h2
  intro σ H S Q' q'
  refine ts_of (pe_andT pe_s pe_s) ?_
  refine ha k X G ρ M x _ h1 ν g ρR Cf R σ H S _ fun vv H1 ⟨sv, g1, k1, e1, rr, ν1, N1, r1⟩ => ?_
  refine ⟨t, by rw [G.hK]; exact tru_v N1.cfg h3 r1 k1 rr, ?_⟩
  cases t with
  | true =>
    rw [if_pos rfl]
    exact hb k X G ρ M1 v M' h4 ν1 g1 ρR N1.cfg (N1.rr R) σ H1 (S.ext k1 e1) _ fun v2 H2 z => q' v2 H2 ((z.back e1).imp fun s g' p => p.back N1)
  | false =>
    rw [if_neg (by decide)]
    cases h4
    exact q' _ _ ⟨sv, g1, k1, e1, rr, ν1, N1, r1⟩
theorem se_or (ha : SE T A W C a ra) (hb : SE T A W C (.BoolOp .Or (b :: es) pos) rb) : SE T A W C (.BoolOp .Or (a :: b :: es) pos) (.or ra rb) := fun k X G ρ M v M' he ν g ρR Cf R => by
  unfold evE at he
  obtain ⟨⟨x, M1⟩, h1, h2⟩ := bind_inv he
  obtain ⟨t, h3, h4⟩ := bind_inv h2
  intro σ H S Q' q'
  refine ts_of (pe_orT pe_s pe_s) ?_
  refine ha k X G ρ M x _ h1 ν g ρR Cf R σ H S _ fun vv H1 ⟨sv, g1, k1, e1, rr, ν1, N1, r1⟩ => ?_
  refine ⟨t, by rw [G.hK]; exact tru_v N1.cfg h3 r1 k1 rr, ?_⟩
  cases t with
  | true =>
    rw [if_pos rfl]
    cases h4
    exact q' _ _ ⟨sv, g1, k1, e1, rr, ν1, N1, r1⟩
  | false =>
    rw [if_neg (by decide)]
    exact hb k X G ρ M1 v M' h4 ν1 g1 ρR N1.cfg (N1.rr R) σ H1 (S.ext k1 e1) _ fun v2 H2 z => q' v2 H2 ((z.back e1).imp fun s g' p => p.back N1)
theorem se_ife (hc : ST T A W C e ta) (ha : SE T A W C a ra) (hb : SE T A W C b rb) : SE T A W C (.IfExp e a b pos) (.ife ta ra rb) := fun k X G ρ M v M' he ν g ρR Cf R => by
  unfold evE at he
  obtain ⟨⟨t, M1⟩, h1, h2⟩ := bind_inv he
  refine we_ifx ((hc k X G ρ M t M1 h1 ν g ρR Cf R).imp fun t' g1 ⟨et, ν1, N1⟩ => ?_)
  subst et
  cases t' with
  | true => rw [if_pos rfl]; exact (ha k X G ρ M1 v M' h2 ν1 g1 ρR N1.cfg (N1.rr R)).imp fun s g' p => p.back N1
  | false => rw [if_neg (by decide)]; exact (hb k X G ρ M1 v M' h2 ν1 g1 ρR N1.cfg (N1.rr R)).imp fun s g' p => p.back N1
theorem QB.pv {ν : List Addr} {M : MS} {g g' : G} {t : Bool} {s : SV} (Cf : Cfg ν M g) (h : QB t g s g') : PV ν M g (.d (.bl t)) M s g' := by
  obtain ⟨rfl, rfl⟩ := h
  exact PV.d Cf
theorem se_cmp {op : COp} (hm : stB b = true) (ha : SE T A W C a ra) (hb : SE T A W C b rb) : SE T A W C (.Compare a [copOf op] [b] pos) (.cmp op ra rb) := fun k X G ρ M v M' he ν g ρR Cf R => by
  unfold evE at he
  obtain ⟨⟨x, M1⟩, h1, h2⟩ := bind_inv he
  obtain ⟨⟨y, M2⟩, h3, h4⟩ := bind_inv h2
  obtain ⟨t, h5, h6⟩ := bind_inv h4
  obtain ⟨rfl, rfl⟩ := ret_inv h6
  obtain ⟨r, hr, hw⟩ := cmp_ok (X := X) G.hK G.hu h5
  exact we_cmp hr (mark_eq hm) ((ha k X G ρ M x M1 h1 ν g ρR Cf R).imp fun sx g1 ⟨ν1, N1, r1⟩ => (hb k X G ρ M1 y _ h3 ν1 g1 ρR N1.cfg (N1.rr R)).imp fun sy g2 ⟨ν2, N2, r2⟩ =>
    (hw ν2 g2 sx sy N2.cfg (N2.rs r1) r2).imp fun s g' z => ((z.pv N2.cfg).back N2).back N1)
theorem se_cmp2 {o1 o2 : COp} (hm : stB e = true) (ha : SE T A W C a ra) (hb : SE T A W C b rb) (hc : SE T A W C e rc) : SE T A W C (.Compare a [copOf o1, copOf o2] [b, e] pos) (.cmp2 o1 o2 ra rb rc) := fun k X G ρ M v M' he ν g ρR Cf R => by
  unfold evE at he
  obtain ⟨⟨x, M1⟩, h1, h2⟩ := bind_inv he
  obtain ⟨⟨y, M2⟩, h3, h4⟩ := bind_inv h2
  obtain ⟨t, h5, h6⟩ := bind_inv h4
  obtain ⟨r, hr, hw⟩ := cmp_ok (X := X) G.hK G.hu h5
  cases t with
  | true =>
    obtain ⟨⟨z, M3⟩, h7, h8⟩ := bind_inv (show (evE _ rc ρ M2).bind _ = some (v, M') from h6)
    obtain ⟨t2, h9, h10⟩ := bind_inv h8
    obtain ⟨rfl, rfl⟩ := ret_inv h10
    obtain ⟨r2, hr2, hw2⟩ := cmp_ok (X := X) G.hK G.hu h9
    refine we_chain hr hr2 ?_ (last_eq hm)
    refine (ha k X G ρ M x M1 h1 ν g ρR Cf R).imp fun sx g1 ⟨ν1, N1, q1⟩ => (hb k X G ρ M1 y _ h3 ν1 g1 ρR N1.cfg (N1.rr R)).imp fun sy g2 ⟨ν2, N2, q2⟩ => (hw ν2 g2 sx sy N2.cfg (N2.rs q1) q2).imp fun s g3 zz => ?_
    obtain ⟨rfl, rfl⟩ := zz
    refine ⟨true, rfl, ?_⟩
    rw [if_pos rfl]
    exact (hc k X G ρ M2 z _ h7 ν2 g3 ρR N2.cfg (N2.rr (N1.rr R))).imp fun sz g4 ⟨ν3, N3, q3⟩ => (hw2 ν3 g4 sy sz N3.cfg (N3.rs q2) q3).imp fun s g' zz => (((zz.pv N3.cfg).back N3).back N2).back N1
  | false =>
    obtain ⟨rfl, rfl⟩ := ret_inv (show ret (.bl false) M2 = some (v, M') from h6)
    refine we_chain hr (r' := fun _ _ _ _ => False) (fun pins s σ H x y v u Q I rx ry h => h.elim) ?_ (last_eq hm)
    refine (ha k X G ρ M x M1 h1 ν g ρR Cf R).imp fun sx g1 ⟨ν1, N1, q1⟩ => (hb k X G ρ M1 y _ h3 ν1 g1 ρR N1.cfg (N1.rr R)).imp fun sy g2 ⟨ν2, N2, q2⟩ => (hw ν2 g2 sx sy N2.cfg (N2.rs q1) q2).imp fun s g3 zz => ?_
    obtain ⟨rfl, rfl⟩ := zz
    refine ⟨false, rfl, ?_⟩
    rw [if_neg (by decide)]
    exact ((PV.d N2.cfg).back N2).back N1
/-! ### tests -/
theorem st_val (hv : tvB a = true) (ha : SE T A W C a ra) : ST T A W C a (.val ra) := fun k X G ρ M v M' he ν g ρR Cf R => by
  unfold evT at he
  obtain ⟨⟨x, M1⟩, h1, h2⟩ := bind_inv he
  obtain ⟨t, h3, h4⟩ := map_inv h2
  cases h4
  intro σ H S Q' q'
  refine tt_of (pt_truth pe_s (tv_eq hv)) ?_
  refine ha k X G ρ M x _ h1 ν g ρR Cf R σ H S _ fun vv H1 ⟨sv, g1, k1, e1, rr, ν1, N1, r1⟩ => ?_
  exact ⟨v, by rw [G.hK]; exact tru_v N1.cfg h3 r1 k1 rr, q' _ _ ⟨g1, k1, e1, rfl, ν1, N1⟩⟩
theorem st_cmp {op : COp} (hm : stB b = true) (ha : SE T A W C a ra) (hb : SE T A W C b rb) : ST T A W C (.Compare a [copOf op] [b] pos) (.val (.cmp op ra rb)) := fun k X G ρ M v M' he ν g ρR Cf R => by
  unfold evT at he
  obtain ⟨⟨z, M0⟩, h0, h7⟩ := bind_inv he
  unfold evE at h0
  obtain ⟨⟨x, M1⟩, h1, h2⟩ := bind_inv h0
  obtain ⟨⟨y, M2⟩, h3, h4⟩ := bind_inv h2
  obtain ⟨t, h5, h6⟩ := bind_inv h4
  obtain ⟨rfl, rfl⟩ := ret_inv h6
  obtain ⟨t', h8, h9⟩ := map_inv h7
  cases h8; cases h9
  obtain ⟨r, hr, hw⟩ := cmp_ok (X := X) G.hK G.hu h5
  exact wt_cmp hr (mark_eq hm) ((ha k X G ρ M x M1 h1 ν g ρR Cf R).imp fun sx g1 ⟨ν1, N1, r1⟩ => (hb k X G ρ M1 y _ h3 ν1 g1 ρR N1.cfg (N1.rr R)).imp fun sy g2 ⟨ν2, N2, r2⟩ =>
    (hw ν2 g2 sx sy N2.cfg (N2.rs r1) r2).imp fun s g' z => ⟨_, z.1, rfl, ν2, by rw [z.2]; exact N1.trans N2⟩)
theorem st_cmp2 {o1 o2 : COp} (hm : stB e = true) (ha : SE T A W C a ra) (hb : SE T A W C b rb) (hc : SE T A W C e rc) : ST T A W C (.Compare a [copOf o1, copOf o2] [b, e] pos) (.val (.cmp2 o1 o2 ra rb rc)) := fun k X G ρ M v M' he ν g ρR Cf R => by
  unfold evT at he
  obtain ⟨⟨z0, M0⟩, h0, h20⟩ := bind_inv he
  obtain ⟨t0, h21, h22⟩ := map_inv h20
  cases h22
  unfold evE at h0
  obtain ⟨⟨x, M1⟩, h1, h2⟩ := bind_inv h0
  obtain ⟨⟨y, M2⟩, h3, h4⟩ := bind_inv h2
  obtain ⟨t, h5, h6⟩ := bind_inv h4
  obtain ⟨r, hr, hw⟩ := cmp_ok (X := X) G.hK G.hu h5
  cases t with
  | true =>
    obtain ⟨⟨z, M3⟩, h7, h8⟩ := bind_inv (show (evE _ rc ρ M2).bind _ = some (z0, _) from h6)
    obtain ⟨t2, h9, h10⟩ := bind_inv h8
    obtain ⟨rfl, rfl⟩ := ret_inv h10
    cases h21
    obtain ⟨r2, hr2, hw2⟩ := cmp_ok (X := X) G.hK G.hu h9
    refine wt_chain hr hr2 ?_ (last_eq hm)
    refine (ha k X G ρ M x M1 h1 ν g ρR Cf R).imp fun sx g1 ⟨ν1, N1, q1⟩ => (hb k X G ρ M1 y _ h3 ν1 g1 ρR N1.cfg (N1.rr R)).imp fun sy g2 ⟨ν2, N2, q2⟩ => (hw ν2 g2 sx sy N2.cfg (N2.rs q1) q2).imp fun s g3 zz => ?_
    obtain ⟨rfl, rfl⟩ := zz
    refine ⟨true, rfl, ?_⟩
    rw [if_pos rfl]
    exact (hc k X G ρ M2 z _ h7 ν2 g3 ρR N2.cfg (N2.rr (N1.rr R))).imp fun sz g4 ⟨ν3, N3, q3⟩ => (hw2 ν3 g4 sy sz N3.cfg (N3.rs q2) q3).imp fun s g' zz => ⟨_, zz.1, rfl, ν3, by rw [zz.2]; exact (N1.trans N2).trans N3⟩
  | false =>
    obtain ⟨rfl, rfl⟩ := ret_inv (show ret (.bl false) M2 = some (z0, _) from h6)
    cases h21
    refine wt_chain hr (r' := fun _ _ _ _ => False) (fun pins s σ H x y v u Q I rx ry h => h.elim) ?_ (last_eq hm)
    refine (ha k X G ρ M x M1 h1 ν g ρR Cf R).imp fun sx g1 ⟨ν1, N1, q1⟩ => (hb k X G ρ M1 y _ h3 ν1 g1 ρR N1.cfg (N1.rr R)).imp fun sy g2 ⟨ν2, N2, q2⟩ => (hw ν2 g2 sx sy N2.cfg (N2.rs q1) q2).imp fun s g3 zz => ?_
    obtain ⟨rfl, rfl⟩ := zz
    refine ⟨false, rfl, ?_⟩
    rw [if_neg (by decide)]
    exact ⟨rfl, ν2, N1.trans N2⟩
theorem st_not (ha : ST T A W C a ta) : ST T A W C (.UnaryOp .Not a pos) (.not ta) := fun k X G ρ M v M' he ν g ρR Cf R => by
  unfold evT at he
  obtain ⟨⟨t, M1⟩, h1, h2⟩ := map_inv he
  cases h2
  refine wt_not ((ha k X G ρ M t _ h1 ν g ρR Cf R).imp fun t' g1 ⟨et, ν1, N1⟩ => ?_)
  subst et
  exact ⟨rfl, ν1, N1⟩
theorem sw_one {op : BoolOp} (ha : ST T A W C a ta) : SW T A W C (.BoolOp op [a] pos) ta := fun k X G ρ M v M' he ν g ρR Cf R => by
  cases op with
  | And => exact ww_and1 (ha k X G ρ M v M' he ν g ρR Cf R)
  | Or => exact ww_or1 (ha k X G ρ M v M' he ν g ρR Cf R)
theorem sw_and (ha : ST T A W C a ta) (hb : SW T A W C (.BoolOp .And (b :: es) pos) tb) : SW T A W C (.BoolOp .And (a :: b :: es) pos) (.and ta tb) := fun k X G ρ M v M' he ν g ρR Cf R => by
  unfold evT at he
  obtain ⟨⟨t, M1⟩, h1, h2⟩ := bind_inv he
  refine ww_and ((ha k X G ρ M t M1 h1 ν g ρR Cf R).imp fun t' g1 ⟨et, ν1, N1⟩ => ?_)
  subst et
  cases t' with
  | true => rw [if_pos rfl]; exact (hb k X G ρ M1 v M' h2 ν1 g1 ρR N1.cfg (N1.rr R)).imp fun s g' p => p.back N1
  | false => rw [if_neg (by decide)]; cases h2; exact ⟨rfl, ν1, N1⟩
theorem sw_or (ha : ST T A W C a ta) (hb : SW T A W C (.BoolOp .Or (b :: es) pos) tb) : SW T A W C (.BoolOp .Or (a :: b :: es) pos) (.or ta tb) := fun k X G ρ M v M' he ν g ρR Cf R => by
  unfold evT at he
  obtain ⟨⟨t, M1⟩, h1, h2⟩ := bind_inv he
  refine ww_or ((ha k X G ρ M t M1 h1 ν g ρR Cf R).imp fun t' g1 ⟨et, ν1, N1⟩ => ?_)
  subst et
  cases t' with
  | true => rw [if_pos rfl]; cases h2; exact ⟨rfl, ν1, N1⟩
  | false => rw [if_neg (by decide)]; exact (hb k X G ρ M1 v M' h2 ν1 g1 ρR N1.cfg (N1.rr R)).imp fun s g' p => p.back N1
theorem st_w (ha : SW T A W C a ta) : ST T A W C a ta := fun k X G ρ M v M' he ν g ρR Cf R => wt_w (ha k X G ρ M v M' he ν g ρR Cf R)
/-! ### displays, places, fields, built-ins -/
theorem sa_nil : SA T A W C [] .nil := fun k X G ρ M v M' he ν g ρR Cf R => by
  unfold evA at he; cases he
  exact wa_nil ⟨ν, Nxt.refl Cf, .nil⟩
theorem sa_cons (hn : nsB a = true) (ha : SE T A W C a ra) (hb : SA T A W C es ras) : SA T A W C (a :: es) (.cons ra ras) := fun k X G ρ M v M' he ν g ρR Cf R => by
  unfold evA at he
  obtain ⟨⟨x, M1⟩, h1, h2⟩ := bind_inv he
  obtain ⟨⟨xs, M2⟩, h3, h4⟩ := bind_inv h2
  cases h4
  exact wa_cons ((ha k X G ρ M x M1 h1 ν g ρR Cf R).imp fun sx g1 ⟨ν1, N1, r1⟩ => (hb k X G ρ M1 xs _ h3 ν1 g1 ρR N1.cfg (N1.rr R)).imp fun sxs g2 ⟨ν2, N2, r2⟩ => ⟨ν2, N1.trans N2, .cons (N2.rs r1) r2⟩) (star_ns hn)
theorem se_tup {kk : Nat} (ha : SA T A W C es ras) : SE T A W C (.Tuple es kk pos) (.tup ras) := fun k X G ρ M v M' he ν g ρR Cf R => by
  unfold evE at he
  obtain ⟨⟨xs, M1⟩, h1, h2⟩ := bind_inv he
  obtain ⟨hl, h2⟩ := if_inv h2
  obtain ⟨l, h3, h4⟩ := bind_inv h2
  obtain ⟨rfl, rfl⟩ := ret_inv h4
  refine we_tup ((ha k X G ρ M xs _ h1 ν g ρR Cf R).imp fun sxs g1 ⟨ν1, N1, r1⟩ => ?_)
  have e := relL_all r1 h3
  exact ⟨l, e, by rw [allD_eq h3, List.length_map] at hl; exact hl, ν1, N1, rfl⟩
theorem se_lst (ha : SA T A W C es ras) : SE T A W C (.List es pos) (.lst false ras) := fun k X G ρ M v M' he ν g ρR Cf R => by
  unfold evE at he
  obtain ⟨⟨xs, M1⟩, h1, h2⟩ := bind_inv he
  obtain ⟨hl, h2⟩ := if_inv h2
  obtain ⟨l, h3, h4⟩ := bind_inv (show (allD xs).bind _ = some (v, M') from h2)
  obtain ⟨rfl, rfl⟩ := ret_inv h4
  refine we_lst ((ha k X G ρ M xs _ h1 ν g ρR Cf R).imp fun sxs g1 ⟨ν1, N1, r1⟩ => ?_)
  have e := relL_all r1 h3
  exact ⟨l, e, by rw [allD_eq h3, List.length_map] at hl; exact hl, ν1, N1, rfl⟩
theorem se_lstO (ha : SA T A W C es ras) : SE T A W C (.List es pos) (.lst true ras) := fun k X G ρ M v M' he ν g ρR Cf R => by
  unfold evE at he
  obtain ⟨⟨xs, M1⟩, h1, h2⟩ := bind_inv he
  obtain ⟨hl, h2⟩ := if_inv h2
  have h2 : EV.new M1 (.lst xs) = some (v, M') := h2
  unfold EV.new at h2; cases h2
  exact we_lstO ((ha k X G ρ M xs _ h1 ν g ρR Cf R).imp fun sxs g1 ⟨ν1, N1, r1⟩ => ⟨by rw [← plen r1]; exact hl, fun p hp => (PV.new N1.cfg hp (show RelO ν1 (.lst xs) (.lst sxs) from r1)).back N1⟩)
theorem se_ix (hs : slB b = true) (ha : SE T A W C a ra) (hb : SE T A W C b rb) : SE T A W C (.Subscript a b pos) (.ix ra rb) := fun k X G ρ M v M' he ν g ρR Cf R => by
  unfold evE at he
  obtain ⟨⟨x, M1⟩, h1, h2⟩ := bind_inv he
  obtain ⟨⟨y, M2⟩, h3, h4⟩ := bind_inv h2
  obtain ⟨r, hr, hw⟩ := ix_ok (X := X) G.hK h4
  exact we_ix hr ((ha k X G ρ M x M1 h1 ν g ρR Cf R).imp fun sx g1 ⟨ν1, N1, r1⟩ => (hb k X G ρ M1 y M2 h3 ν1 g1 ρR N1.cfg (N1.rr R)).imp fun sy g2 ⟨ν2, N2, r2⟩ =>
    (hw ν2 g2 sx sy N2.cfg (N2.rs r1) r2).imp fun s g' p => (p.back N2).back N1) (plain_ix hs)
def SO (T : Tab) (A : Adr) (W : Wd) (C : CC) (e : Option Expr) (r : IO) : Prop := ∀ k X, Good T A W C k X → ∀ ρ M i M', evO (callK T.dfs k) r ρ M = some (i, M') → ∀ ν g ρR, Cfg ν M g → RelR ν ρ ρR → WO X W e ρR g (fun i' g' => i' = i ∧ ∃ ν', Nxt ν M g ν' M' g')
theorem so_no : SO T A W C none .no := fun k X G ρ M v M' he ν g ρR Cf R => by
  unfold evO at he; cases he
  exact ⟨rfl, ν, Nxt.refl Cf⟩
theorem so_at (ha : SE T A W C a ra) : SO T A W C (some a) (.at ra) := fun k X G ρ M v M' he ν g ρR Cf R => by
  unfold evO at he
  obtain ⟨⟨x, M1⟩, h1, h2⟩ := bind_inv he
  dsimp only at h2
  split at h2
  · cases h2
    refine (ha k X G ρ M _ _ h1 ν g ρR Cf R).imp fun sx g1 ⟨ν1, N1, r1⟩ => ?_
    exact ⟨_, relS_d r1, rfl, ν1, N1⟩
  · cases h2
theorem _root_.DL.WO.imp {X : Cx} {W : Wd} {e : Option Expr} {ρ : Rho} {g : G} {Q Q1 : Option Int → G → Prop} (h : WO X W e ρ g Q) (q : ∀ i g', Q i g' → Q1 i g') : WO X W e ρ g Q1 := by
  cases e with
  | none => exact q _ _ h
  | some e => exact WE.imp h fun r g' ⟨i, e, z⟩ => ⟨i, e, q _ _ z⟩
theorem se_slc {lo hi : Option Expr} {rl rh : IO} {p2 : Pos} (ha : SE T A W C a ra) (h1 : SO T A W C lo rl) (h2 : SO T A W C hi rh) : SE T A W C (.Subscript a (.Slice lo hi none p2) pos) (.slc ra rl rh) := fun k X G ρ M v M' he ν g ρR Cf R => by
  unfold evE at he
  obtain ⟨⟨x, M1⟩, e1, he⟩ := bind_inv he
  obtain ⟨⟨i, M2⟩, e2, he⟩ := bind_inv he
  obtain ⟨⟨j, M3⟩, e3, he⟩ := bind_inv he
  obtain ⟨r, hr, hw⟩ := slc_ok (X := X) G.hK he
  refine we_slice hr ((ha k X G ρ M x M1 e1 ν g ρR Cf R).imp fun sx g1 ⟨ν1, N1, r1⟩ => (h1 k X G ρ M1 i M2 e2 ν1 g1 ρR N1.cfg (N1.rr R)).imp fun i' g2 ⟨ei, ν2, N2⟩ => (h2 k X G ρ M2 j M3 e3 ν2 g2 ρR N2.cfg (N2.rr (N1.rr R))).imp fun j' g3 ⟨ej, ν3, N3⟩ => ?_)
  subst ei ej
  exact fun H vx k rx Q' q' => hw ν3 g3 sx N3.cfg (N3.rs (N2.rs r1)) H vx k rx Q' fun v' H' z => q' v' H' (z.imp fun s g' p => ((p.back N3).back N2).back N1)
theorem se_rev {kk : Nat} {p1 p2 p3 : Pos} (ha : SE T A W C a ra) : SE T A W C (.Subscript a (.Slice none none (some (.UnaryOp .USub (.Constant (.int 1) kk p1) p2)) p3) pos) (.rev ra) := fun k X G ρ M v M' he ν g ρR Cf R => by
  unfold evE at he
  obtain ⟨⟨x, M1⟩, h1, h2⟩ := bind_inv he
  obtain ⟨l, h3, h4⟩ := bind_inv h2
  unfold EV.new at h4; cases h4
  refine we_revO G.hK ((ha k X G ρ M x M1 h1 ν g ρR Cf R).imp fun sx g1 ⟨ν1, N1, r1⟩ => ?_)
  obtain ⟨l', h5, h6⟩ := lstOf_rel N1.cfg h3 r1
  exact ⟨l', h5, fun p hp => (PV.new N1.cfg hp (show RelO ν1 (.lst l.reverse) (.lst l'.reverse) from prev h6)).back N1⟩
theorem relF_look {κ : Type} [BEq κ] {ν : List Addr} : ∀ {fs gs : List (κ × SV)} {f : κ} {v : SV}, RelF ν fs gs → fs.lookup f = some v → ∃ s, gs.lookup f = some s ∧ RelS ν v s
  | _, _, _, _, .nil, h => by cases h
  | (k, x) :: fs, _, f, v, .cons (b := q) r t, h => by
    obtain ⟨k', y⟩ := q
    obtain ⟨e, r⟩ := r
    cases (show k = k' from e)
    rw [List.lookup_cons] at h ⊢
    cases z : f == k with
    | true => rw [z] at h; cases h; exact ⟨y, rfl, r⟩
    | false => rw [z] at h; exact relF_look t h
theorem clsOf_ins {M : MS} {x : SV} {c : Nat} (h : clsOf M x = some c) : (∃ fs, x = .d (.ins c fs)) ∨ ∃ i fs, x = .ob i ∧ obj M i = some (.ins c fs) := by
  unfold clsOf at h
  split at h
  · cases h; exact .inl ⟨_, rfl⟩
  · rename_i i
    split at h
    · rename_i c' fs e
      cases h; exact .inr ⟨i, fs, rfl, e⟩
    · cases h
  · cases h
theorem fld_rel {M : MS} {x sx v : SV} {c : Nat} {f : Str} {ν : List Addr} {g : G} (Cf : Cfg ν M g) (hc : clsOf M x = some c) (h : fldOf M f x = some v) (r : RelS ν x sx) : ∃ s, FldOf g c f sx s ∧ RelS ν v s := by
  rcases clsOf_ins hc with ⟨fs, rfl⟩ | ⟨i, fs, rfl, e⟩
  · rw [relS_d r]
    obtain ⟨d, h1, rfl⟩ := map_inv (show (fs.lookup f).map SV.d = some v from h)
    exact ⟨.d d, ⟨rfl, d, h1, rfl⟩, rfl⟩
  · have h : (match obj M i with | some (.ins _ fs) => fs.lookup f | _ => none) = some v := h
    rw [e] at h
    have h : fs.lookup f = some v := h
    obtain ⟨a, u, rfl, ha, hu, ho⟩ := Cf.obj e r
    obtain ⟨gs, rfl, rg⟩ := relO_ins ho
    obtain ⟨s, h1, h2⟩ := relF_look rg h
    exact ⟨s, ⟨gs, hu, h1⟩, h2⟩
def fldB (T : Tab) (cs : List Nat) (f : Str) : Bool := cs.all fun c => T.clss.contains c && decide ((c, f) ∈ T.flds)
theorem fldB_ok {cs : List Nat} {f : Str} {c : Nat} (h : fldB T cs f = true) (hc : cs.contains c = true) : c ∈ T.clss ∧ (c, f) ∈ T.flds := by
  have := List.all_eq_true.mp h c (by simpa using hc)
  obtain ⟨h1, h2⟩ := Bool.and_eq_true_iff.mp this
  exact ⟨by simpa using h1, of_decide_eq_true h2⟩
theorem se_fld {f : Str} {cs : List Nat} (hb : baseB a = true) (hf : fldB T cs f = true) (ha : SE T A W C a ra) : SE T A W C (.Attribute a f pos) (.fld cs f ra) := fun k X G ρ M v M' he ν g ρR Cf R => by
  unfold evE at he
  obtain ⟨⟨x, M1⟩, h1, h2⟩ := bind_inv he
  obtain ⟨c, h3, h4⟩ := bind_inv h2
  obtain ⟨hc, h5⟩ := if_inv h4
  obtain ⟨v', h6, h7⟩ := map_inv h5
  cases h7
  obtain ⟨k1, k2⟩ := fldB_ok hf hc
  refine we_fld (c := c) G.hK (G.fct.cls c k1).c (G.fct.fld c f k2) ((ha k X G ρ M x _ h1 ν g ρR Cf R).imp fun sx g1 ⟨ν1, N1, r1⟩ => ?_) (base_eq hb)
  obtain ⟨s, h8, h9⟩ := fld_rel N1.cfg h3 h6 r1
  exact ⟨s, h8, ν1, N1, h9⟩
theorem se_bi {f : Bi} {x : Str} (hx : x = biName f) (hg : globB C x = true) (hf : x ∈ T.free) (hn : nsB a = true) (hs : es.all nsB = true) (ha : SA T A W C (a :: es) ras) : SE T A W C (.Call (.Name x p) (a :: es) [] pos) (.bi f ras) := fun k X G ρ M v M' he ν g ρR Cf R => by
  unfold evE at he
  obtain ⟨⟨xs, M1⟩, h1, h2⟩ := bind_inv he
  obtain ⟨r, hr, hw⟩ := bi_ok (X := X) G.hK G.hw G.calm h2
  obtain ⟨gl, hd⟩ := G.gl hg
  subst hx
  have h := (ha k X G ρ M xs M1 h1 ν g ρR Cf R).imp fun sxs g1 ⟨ν1, N1, r1⟩ => (hw ν1 g1 sxs N1.cfg r1).imp fun s g' p => PV.back N1 p
  have hne : biName f ≠ "__name__" := by cases f <;> decide +kernel
  cases e : biVal f with
  | builtin id => rw [e] at hr; exact we_callB hr gl (G.fct.free _ hf) (by rw [bi_boot, e]) h hne hd (star_ns hn) (star_all hs)
  | type id => rw [e] at hr; exact we_callTy hr gl (G.fct.free _ hf) (by rw [bi_boot, e]) h hne hd (star_ns hn) (star_all hs)
  | _ => cases f <;> cases e
theorem fewB {pos : Pos} {env : Env} : ∀ {es : List Expr}, es.all nsB = true → (backTo pos (starEach es env)).all (fun x => !x.1) = true
  | [], _ => rfl
  | e :: es, h => by
    obtain ⟨h1, h2⟩ := Bool.and_eq_true_iff.mp (show (nsB e && es.all nsB) = true from h)
    rw [star_ns h1]
    show (!false && (backTo pos (starEach es env)).all (fun x => !x.1)) = true
    rw [fewB h2]; rfl
theorem few_ok {pos : Pos} {env : Env} {es : List Expr} (h : es.all nsB = true) (hl : es.length < 30) : ((backTo pos (starEach es env)).all (fun x => !x.1) && (backToKw pos (keywordEach [] env)).all (fun x => x.1.isSome)
      && decide (es.length + ([] : List Keyword).length + (if ([] : List Keyword).isEmpty then 0 else 1) < 30)) = true := by
  rw [fewB h, decide_eq_true (show es.length + ([] : List Keyword).length + (if ([] : List Keyword).isEmpty then 0 else 1) < 30 from hl)]
  rfl
theorem bmOk_ty {m : Bm} {M : MS} {x sx : SV} {ν : List Addr} {g : G} (Cf : Cfg ν M g) (h : bmOk m M x = true) (r : RelS ν x sx) : (bmK m ≠ 2 → TyS (bmT m) g sx) ∧ (bmK m = 2 → ∃ a ks, sx = .ob a ∧ g a = some (.tset ks)) := by
  unfold bmOk at h
  unfold bmT
  split at h
  · rename_i e; rw [e, relS_d r]; exact ⟨fun _ => rfl, fun h => by cases h⟩
  · rename_i i e
    rw [e]
    split at h
    · rename_i l e2
      obtain ⟨a, u, rfl, ha, hu, ho⟩ := Cf.obj e2 r
      obtain ⟨l', rfl, rl⟩ := relO_lst ho
      exact ⟨fun _ => ⟨rfl, l', hu⟩, fun h => by cases h⟩
    · cases h
  · rename_i e; rw [e, relS_d r]; exact ⟨fun _ => rfl, fun h => by cases h⟩
  · rename_i i e
    rw [e]
    split at h
    · rename_i l e2
      obtain ⟨a, u, rfl, ha, hu, ho⟩ := Cf.obj e2 r
      obtain ⟨l', rfl, rl⟩ := relO_set ho
      exact ⟨fun h => absurd rfl h, fun _ => ⟨a, l', rfl, hu⟩⟩
    · cases h
  · cases h
theorem se_bm {m : Bm} {nm : Str} (hx : nm = bmName m) (hb : baseB o = true) (hl : (apos.endLine == pos.line) = true) (hn : nsB a = true) (hs : es.all nsB = true) (h30 : (a :: es).length < 30) (h0 : SE T A W C o ra) (ha : SA T A W C (a :: es) ras) : SE T A W C (.Call (.Attribute o nm apos) (a :: es) [] pos) (.bm m ra ras) := fun k X G ρ M v M' he ν g ρR Cf R => by
  unfold evE at he
  obtain ⟨⟨x, M1⟩, h1, h2⟩ := bind_inv he
  obtain ⟨hk, h2⟩ := if_inv h2
  obtain ⟨⟨xs, M2⟩, h3, h4⟩ := bind_inv h2
  subst hx
  have hall : (a :: es).all nsB = true := by rw [List.all_cons, hn, hs]; rfl
  by_cases hm : bmK m = 2
  · obtain ⟨id, r, q2, q3, q4, hw⟩ := bmS_ok (X := X) (W := W) G.hw h4 hm
    refine we_sm G.hw q2 q3 q4 ((h0 k X G ρ M x M1 h1 ν g ρR Cf R).imp fun sx g1 ⟨ν1, N1, r1⟩ => ⟨(bmOk_ty N1.cfg hk r1).2 hm, (ha k X G ρ M1 xs M2 h3 ν1 g1 ρR N1.cfg (N1.rr R)).imp fun sxs g2 ⟨ν2, N2, r2⟩ => (hw ν2 g2 sx sxs N2.cfg (N2.rs r1) r2).imp fun s g' p => (p.back N2).back N1⟩)
      (base_eq hb) (few_ok hall h30) hl (star_ns hn) (star_all hs)
  · obtain ⟨id, r, q1, q2, q3, q4, hw⟩ := bm_ok (X := X) (W := W) G.hK G.hw G.hu h4 hm
    refine we_bm G.hK q1 q2 q3 q4 ((h0 k X G ρ M x M1 h1 ν g ρR Cf R).imp fun sx g1 ⟨ν1, N1, r1⟩ => ⟨(bmOk_ty N1.cfg hk r1).1 hm, (ha k X G ρ M1 xs M2 h3 ν1 g1 ρR N1.cfg (N1.rr R)).imp fun sxs g2 ⟨ν2, N2, r2⟩ => (hw ν2 g2 sx sxs N2.cfg (N2.rs r1) r2).imp fun s g' p => (p.back N2).back N1⟩)
      (base_eq hb) (few_ok hall h30) hl (star_ns hn) (star_all hs)
theorem se_bm0 {m : Bm} {nm : Str} (hx : nm = bmName m) (hm : bmK m ≠ 2) (hb : baseB o = true) (hl : (apos.endLine == pos.line) = true) (h0 : SE T A W C o ra) : SE T A W C (.Call (.Attribute o nm apos) [] [] pos) (.bm m ra .nil) := fun k X G ρ M v M' he ν g ρR Cf R => by
  unfold evE at he
  obtain ⟨⟨x, M1⟩, h1, h2⟩ := bind_inv he
  obtain ⟨hk, h2⟩ := if_inv h2
  obtain ⟨⟨xs, M2⟩, h3, h4⟩ := bind_inv h2
  unfold evA at h3; cases h3
  subst hx
  obtain ⟨id, r, q1, q2, q3, q4, hw⟩ := bm_ok (X := X) (W := W) G.hK G.hw G.hu h4 hm
  exact we_bm0 G.hK q1 q2 q3 q4 ((h0 k X G ρ M x _ h1 ν g ρR Cf R).imp fun sx g1 ⟨ν1, N1, r1⟩ => ⟨(bmOk_ty N1.cfg hk r1).1 hm, (hw ν1 g1 sx [] N1.cfg r1 .nil).imp fun s g' p => p.back N1⟩) (base_eq hb) hl
end
end EV

set_option autoImplicit false
/-! isinstance; things that may change taken for trees -/
namespace EV
open PySem PySem.Spec PyProof.Rows L2 DL
section
variable {T : Tab} {A : Adr} {W : Wd} {C : CC}
variable {pos p p1 p2 : Pos} {a b e o : Expr} {es : List Expr} {ra : IE}
/-- a text that names a type -/
def TyE (T : Tab) (A : Adr) (W : Wd) (C : CC) (e : Expr) (t : Ty) : Prop := ∀ k X, Good T A W C k X → ∃ v, PE X e (tC v) ∧ ClsV v (tyVal W t)
def tyNm : Ty → Str
  | .bl => "bool" | .int => "int" | .str => "str" | .lst => "list" | .tup => "tuple" | _ => ""
def tyBu : Ty → Bool
  | .bl | .int | .str | .lst | .tup => true
  | _ => false
theorem ty_b {t : Ty} {x : Str} (hx : x = tyNm t) (hb : tyBu t = true) (hg : globB C x = true) (hf : x ∈ T.free) : TyE T A W C (.Name x pos) t := fun k X G => by
  obtain ⟨gl, hd⟩ := G.gl hg
  have hm := G.fct.free _ hf
  subst hx
  cases t <;> first | (cases hb; done) | skip
  · exact ⟨.ty "bool", pe_bltn gl hm (u := .type "bool") rfl rfl (by decide) hd, .ty _⟩
  · exact ⟨.ty "int", pe_bltn gl hm (u := .type "int") rfl rfl (by decide) hd, .ty _⟩
  · exact ⟨.ty "str", pe_bltn gl hm (u := .type "str") rfl rfl (by decide) hd, .ty _⟩
  · exact ⟨.ty "list", pe_bltn gl hm (u := .type "list") rfl rfl (by decide) hd, .ty _⟩
  · exact ⟨.ty "tuple", pe_bltn gl hm (u := .type "tuple") rfl rfl (by decide) hd, .ty _⟩
theorem ty_c {x : Str} {c : Nat} (hg : globB C x = true) (hk : (x, c) ∈ T.cnames) : TyE T A W C (.Name x pos) (.cls c) := fun k X G => by
  obtain ⟨gl, hd⟩ := G.gl hg
  obtain ⟨hm, _⟩ := G.fct.cname x c hk
  exact ⟨.ref (W.cl c), pe_glob gl hm rfl hd, .own _⟩
def tyB (T : Tab) : Ty → Bool
  | .cls c => T.clss.contains c
  | _ => true
theorem tyB_ok {t : Ty} (h : tyB T t = true) : tyIn T t := by
  cases t <;> first | exact True.intro | skip
  rename_i c
  have h : T.clss.contains c = true := h
  show c ∈ T.clss
  simpa using h
theorem tyOf_w {M : MS} {x sx : SV} {t : Ty} {cs : List Nat} {ν : List Addr} {g : G} {mg : Str → Option Value} (F : Fct T A W mg) (Cf : Cfg ν M g) (h : tyOf M x = some t) (hk : tyK cs t = true) (hcs : cs.all (fun c => T.clss.contains c) = true) (r : RelS ν x sx) : tyIn T t ∧ TyW W g sx (tyVal W t) := by
  have own : ∀ {c : Nat}, tyK cs (.cls c) = true → c ∈ T.clss := fun {c} hk => by
    have h1 : cs.contains c = true := hk
    have := List.all_eq_true.mp hcs c (by simpa using h1)
    simpa using this
  cases x with
  | d d =>
    cases relS_d r
    cases d <;> first | (cases h; done) | skip
    · cases h; exact ⟨True.intro, .non⟩
    · cases h; exact ⟨True.intro, .bl _⟩
    · cases h; exact ⟨True.intro, .int _⟩
    · cases h; exact ⟨True.intro, .str _⟩
    · cases h; exact ⟨True.intro, .lst _⟩
    · cases h; exact ⟨True.intro, .tup _⟩
    · cases h; exact ⟨own hk, .ins (F.cls _ (own hk))⟩
    · cases h; exact ⟨True.intro, .fl _⟩
  | ob i =>
    have h : (match obj M i with | some (.lst _) => some Ty.lst | some (.ins c _) => some (.cls c) | _ => none) = some t := h
    split at h
    · rename_i l e
      cases h
      obtain ⟨a, u, rfl, ha, hu, ho⟩ := Cf.obj e r
      obtain ⟨l', rfl, rl⟩ := relO_lst ho
      exact ⟨True.intro, .obl hu⟩
    · rename_i c fs e
      cases h
      obtain ⟨a, u, rfl, ha, hu, ho⟩ := Cf.obj e r
      obtain ⟨l', rfl, rl⟩ := relO_ins ho
      exact ⟨own hk, .obi hu (F.cls _ (own hk))⟩
    · cases h
theorem se_isi {u : Ty} {cs : List Nat} (hg : globB C "isinstance" = true) (hf : ("isinstance" : Str) ∈ T.free) (hcs : cs.all (fun c => T.clss.contains c) = true) (hu : tyB T u = true) (hn : nsB a = true) (hn2 : nsB b = true) (h2 : TyE T A W C b u) (ha : SE T A W C a ra) : SE T A W C (.Call (.Name "isinstance" p) [a, b] [] pos) (.isi cs ra [u]) := fun k X G ρ M v M' he ν g ρR Cf R => by
  unfold evE at he
  obtain ⟨⟨x, M1⟩, h1, h3⟩ := bind_inv he
  obtain ⟨t, h4, h5⟩ := bind_inv h3
  obtain ⟨hk, h6⟩ := if_inv h5
  obtain ⟨rfl, rfl⟩ := ret_inv h6
  obtain ⟨gl, hd⟩ := G.gl hg
  obtain ⟨v2, hp, kv⟩ := h2 k X G
  refine we_isi G.hK (G.fct.free _ hf) hp kv ((ha k X G ρ M x _ h1 ν g ρR Cf R).imp fun sx g1 ⟨ν1, N1, r1⟩ => ?_) gl (star_ns hn) (star_ns hn2) (star_all (es := [b]) (by show (nsB b && true) = true; rw [hn2]; rfl))
  obtain ⟨ti, tw⟩ := tyOf_w G.fct N1.cfg h4 hk hcs r1
  refine ⟨_, _, tw, G.fct.kit t u ti (tyB_ok hu), ?_⟩
  have e : [u].any (sub1 t) = sub1 t u := by show (sub1 t u || false) = _; rw [Bool.or_false]
  rw [e]
  exact (PV.d N1.cfg).back N1
theorem se_isi2 {u w : Ty} {kt} {pt : Pos} {cs : List Nat} {c2 : Expr} (hg : globB C "isinstance" = true) (hf : ("isinstance" : Str) ∈ T.free) (hcs : cs.all (fun c => T.clss.contains c) = true) (hu : tyB T u = true) (hw : tyB T w = true) (hn : nsB a = true) (hn2 : nsB b = true) (hn3 : nsB c2 = true) (h2 : TyE T A W C b u) (h22 : TyE T A W C c2 w) (ha : SE T A W C a ra) : SE T A W C (.Call (.Name "isinstance" p) [a, .Tuple [b, c2] kt pt] [] pos) (.isi cs ra [u, w]) := fun k X G ρ M v M' he ν g ρR Cf R => by
  unfold evE at he
  obtain ⟨⟨x, M1⟩, h1, h3⟩ := bind_inv he
  obtain ⟨t, h4, h5⟩ := bind_inv h3
  obtain ⟨hk, h6⟩ := if_inv h5
  obtain ⟨rfl, rfl⟩ := ret_inv h6
  obtain ⟨gl, hd⟩ := G.gl hg
  obtain ⟨v2, hp, kv⟩ := h2 k X G
  obtain ⟨v3, hp3, kv3⟩ := h22 k X G
  refine we_isi2 G.hK (G.fct.free _ hf) hp hp3 kv kv3 ((ha k X G ρ M x _ h1 ν g ρR Cf R).imp fun sx g1 ⟨ν1, N1, r1⟩ => ?_) gl (star_ns hn) (star_ns (e := .Tuple [b, c2] kt pt) rfl) (star_ns hn2) (star_ns hn3) (star_all (es := [.Tuple [b, c2] kt pt]) rfl)
  obtain ⟨ti, tw⟩ := tyOf_w G.fct N1.cfg h4 hk hcs r1
  refine ⟨_, _, tw, ?_, (PV.d N1.cfg).back N1⟩
  show (match PySem.W.kitOne W.K (tyVal W t) (tyVal W u) with | some true => some true | some false => PySem.W.kitAny W.K (tyVal W t) [tyVal W w] | none => none) = _
  rw [G.fct.kit t u ti (tyB_ok hu)]
  have e : [u, w].any (sub1 t) = (sub1 t u || (sub1 t w || false)) := rfl
  rw [e]
  cases sub1 t u with
  | true => rfl
  | false =>
    show (match PySem.W.kitOne W.K (tyVal W t) (tyVal W w) with | some true => some true | some false => PySem.W.kitAny W.K (tyVal W t) [] | none => none) = _
    rw [G.fct.kit t w ti (tyB_ok hw)]
    cases sub1 t w <;> rfl
end

/-! ### fewer things that may change -/
/-- g' has what g has, but for things that no longer may change -/
def Less (g g' : G) : Prop := ∀ a o, g' a = some o → g a = some o
section
variable {W : Wd} {H : Hp} {g g' : G}
theorem Less.ext (h : Less g g') : Ext g H g' H := fun a o e n => ⟨e, by
  cases z : g' a with
  | none => rfl
  | some u => rw [h a u z] at n; cases n⟩
theorem _root_.DL.GOk.less (k : GOk W H g) (h : Less g g') : GOk W H g' := fun a o e => (k a o (h a o e)).ext h.ext rfl
end
/-- a thing that may change is a tree in the world where nothing of the store may change -/
def Bare (ν : List Addr) (M : MS) (g g' : G) : Prop := (∀ a, Own ν M a → g' a = none) ∧ Less g g'
section
variable {W : Wd} {H : Hp} {g g' : G} {ν : List Addr} {M : MS}
theorem frzs_rep {n : Nat} (ih : ∀ (x sx : SV) (d : D) (v : V), frz M n x = some d → RelS ν x sx → RepS W H g sx v → Rep W H g' d v) : ∀ {l m : List SV} {ds : List D} {vs : List V}, l.mapM (frz M n) = some ds → RelL ν l m → RepSs W H g m vs → Reps W H g' ds vs
  | l, m, ds, vs, h, r, rr => by
    have := mapM_inv h
    clear h
    induction this generalizing m vs with
    | nil => cases r; cases (show vs = [] from rr); rfl
    | cons q t ih2 =>
      cases r with
      | cons r1 r2 =>
        obtain ⟨x, r', rfl, a1, a2⟩ := rr
        exact ⟨x, r', rfl, ih _ _ _ _ q r1 a1, ih2 _ _ r2 a2⟩
theorem frzf_rep {n : Nat} (ih : ∀ (x sx : SV) (d : D) (v : V), frz M n x = some d → RelS ν x sx → RepS W H g sx v → Rep W H g' d v) : ∀ {l m : List (Str × SV)} {ds : List (Str × D)} {vs : List (Str × V)}, l.mapM (fun p => (frz M n p.2).map fun d => (p.1, d)) = some ds → RelF ν l m → RepSf W H g m vs → Repf W H g' ds vs
  | l, m, ds, vs, h, r, rr => by
    have := mapM_inv h
    clear h
    induction this generalizing m vs with
    | nil => cases r; cases (show vs = [] from rr); rfl
    | @cons x y _ _ q t ih2 =>
      cases r with
      | @cons _ z _ _ r1 r2 =>
        obtain ⟨v, r', rfl, a1, a2⟩ := rr
        obtain ⟨d, hd, rfl⟩ := map_inv q
        refine ⟨v, r', ?_, ih _ _ _ _ hd r1.2 a1, ih2 _ _ r2 a2⟩
        rw [← r1.1]
theorem frz_rep (C : Cfg ν M g) (k : GOk W H g) (B : Bare ν M g g') : ∀ (n : Nat) (x sx : SV) (d : D) (v : V), frz M n x = some d → RelS ν x sx → RepS W H g sx v → Rep W H g' d v
  | _, .d x, sx, d, v, h, r, rr => by
    unfold frz at h
    cases h
    rw [relS_d r] at rr
    exact Rep.ext B.2.ext _ _ rr
  | 0, .ob i, _, _, _, h, _, _ => by unfold frz at h; cases h
  | n + 1, .ob i, sx, d, v, h, r, rr => by
    unfold frz at h
    split at h
    · rename_i l e
      obtain ⟨ds, h1, rfl⟩ := map_inv h
      obtain ⟨a, u, rfl, ha, hu, ho⟩ := C.obj e r
      obtain ⟨l', rfl, rl⟩ := relO_lst ho
      obtain ⟨xs, hx, rx⟩ := k a _ hu
      cases (show v = .ref a from rr)
      exact ⟨a, xs, rfl, ⟨hx, B.1 a ⟨i, _, obj_eq e, ha⟩⟩, frzs_rep (fun x sx d v => frz_rep C k B n x sx d v) h1 rl rx⟩
    · rename_i c fs e
      obtain ⟨ds, h1, rfl⟩ := map_inv h
      obtain ⟨a, u, rfl, ha, hu, ho⟩ := C.obj e r
      obtain ⟨l', rfl, rl⟩ := relO_ins ho
      obtain ⟨dx, vs, hx, rx⟩ := k a _ hu
      cases (show v = .ref a from rr)
      exact ⟨a, dx, vs, rfl, hx, B.1 a ⟨i, _, obj_eq e, ha⟩, frzf_rep (fun x sx d v => frz_rep C k B n x sx d v) h1 rl rx⟩
    · cases h
end
end EV

set_option autoImplicit false
/-! calls -/
namespace EV
open PySem PySem.Spec PyProof.Rows L2 DL
open Classical in
/-- without what the store may change -/
noncomputable def cutG (ν : List Addr) (M : MS) (g : G) : G := fun a => if Own ν M a then none else g a
section
variable {W : Wd} {H : Hp} {g g' : G} {ν ν' : List Addr} {M M' : MS} {Q Q1 : QE}
theorem cut_bare : Bare ν M g (cutG ν M g) := ⟨fun a h => by unfold cutG; rw [if_pos h], fun a o h => by
  unfold cutG at h
  split at h
  · cases h
  · exact h⟩
theorem cut_nxt {ν1 : List Addr} {M1 : MS} (C : Cfg ν M g) (N : Nxt [] [] g ν1 M1 g') : Nxt ν M g ν M (cutG ν1 M1 g') := by
  have keep : ∀ {a : Addr} {o : MO}, g a = some o → cutG ν1 M1 g' a = some o := fun {a o} h => by
    obtain ⟨h1, h2⟩ := N.frm a o h (fun ⟨i, o, h, _⟩ => by simp at h)
    unfold cutG
    rw [if_neg h2]; exact h1
  refine ⟨⟨[], by simp⟩, ⟨C.len, fun i o h => ?_, C.inj⟩, fun a o h n => ⟨keep h, n⟩⟩
  obtain ⟨a, u, h1, h2, h3⟩ := C.at_ i o h
  exact ⟨a, u, h1, keep h2, h3⟩
/-- what stands at the end of a call whose answer is taken for a tree -/
def anyQ (sh : Bool) (Q : QE) : QE := fun sv g' => if sh then Q sv g' else ∃ ν' M1 r d n, Cfg ν' M1 g' ∧ RelS ν' r sv ∧ frz M1 n r = some d ∧ Q (.d d) (cutG ν' M1 g')
theorem anyQ.imp {sh : Bool} {sv : SV} (h : anyQ sh Q sv g) (k : ∀ s g', Q s g' → Q1 s g') : anyQ sh Q1 sv g := by
  unfold anyQ at h ⊢
  cases sh with
  | true => rw [if_pos rfl] at h ⊢; exact k _ _ h
  | false =>
    rw [if_neg (by decide)] at h ⊢
    obtain ⟨ν', M1, r, d, n, h1, h2, h3, h4⟩ := h
    exact ⟨ν', M1, r, d, n, h1, h2, h3, k _ _ h4⟩
variable {X : Cx} {e : Expr} {ρ : Rho}
theorem we_any {sh : Bool} (h : WE X W e ρ g (anyQ sh Q)) : WE X W e ρ g Q := by
  cases sh with
  | true => exact h.imp fun s g' q => by unfold anyQ at q; rw [if_pos rfl] at q; exact q
  | false =>
    intro σ H S Q' q'
    refine h σ H S Q' fun v H' ⟨sv, g1, k, ex, rr, q⟩ => ?_
    unfold anyQ at q
    rw [if_neg (by decide)] at q
    obtain ⟨ν', M1, r, d, n, Cf, rs, hf, q⟩ := q
    have B : Bare ν' M1 g1 (cutG ν' M1 g1) := cut_bare
    exact q' v H' ⟨.d d, _, k.less B.2, ex.trans B.2.ext, frz_rep Cf k B n r sv d v hf rs rr, q⟩
theorem pure_inv {c : Call} {f : Nat} {xs : List SV} {v : SV} (h : pureC c f xs M = some (v, M')) : ∃ (ds : List D) (r : SV) (M1 : MS) (d : D), xs = ds.map SV.d ∧ c f (ds.map SV.d) [] = some (r, M1) ∧ frz M1 8 r = some d ∧ v = .d d ∧ M' = M := by
  unfold pureC at h
  split at h
  · rename_i ds e
    split at h
    · rename_i r M1 e2
      split at h
      · rename_i d e3
        cases h
        exact ⟨ds, r, M1, d, allD_eq e, e2, e3, rfl, rfl⟩
      · cases h
    · cases h
  · cases h
/-- a call -/
theorem any_sp {c : Call} {sh : Bool} {f : Nat} {xs svs : List SV} {v : SV} (h : anyC c sh f xs M = some (v, M')) (Cf : Cfg ν M g) (R : RelL ν xs svs) (hq : ∀ s g', PV ν M g v M' s g' → Q s g') : spF (c f) svs g (anyQ sh Q) := by
  unfold anyC at h
  cases sh with
  | true =>
    rw [if_pos rfl] at h
    exact ⟨ν, M, xs, v, M', Cf, R, h, fun s g' p => by unfold anyQ; rw [if_pos rfl]; exact hq _ _ p⟩
  | false =>
    rw [if_neg (by decide)] at h
    obtain ⟨ds, r, M1, d, rfl, h1, h2, rfl, rfl⟩ := pure_inv h
    refine ⟨[], [], _, r, M1, Cfg.nil g, ?_, h1, fun s g' ⟨ν', N, rs⟩ => ?_⟩
    · rw [relL_d R]; exact relL_dd ds
    · unfold anyQ
      rw [if_neg (by decide)]
      exact ⟨ν', M1, r, d, 8, N.cfg, rs, h2, hq _ _ ⟨ν, cut_nxt Cf N, (show d = d from rfl)⟩⟩
end
section
variable {T : Tab} {A : Adr} {W : Wd} {C : CC}
variable {pos p apos : Pos} {a b e o : Expr} {es : List Expr} {ra rb : IE} {ras : IAs}
theorem Good.fnok {k : Nat} {X : Cx} (G : Good T A W C k X) {i : Nat} {d : DefI} (h : T.defs[i]? = some d) : FnOk X.prog X.w X.K X.mg X.base CX0 (4 * k + 3) (A.fa i) (A.fd i) d.ps (liftSp W d.ps.length (spF (callK T.dfs k i))) := (G.snd i d h).mono (by omega)
theorem Good.fnokM {k : Nat} {X : Cx} (G : Good T A W C k X) {i : Nat} {d : DefI} (h : T.defs[i]? = some d) : FnOk X.prog X.w X.K X.mg X.base CX0 (4 * k + 2) (A.fa i) (A.fd i) d.ps (liftSp W d.ps.length (spF (callK T.dfs k i))) := (G.snd i d h).mono (by omega)
theorem Good.fnokL {k : Nat} {X : Cx} (G : Good T A W C k X) {i : Nat} {d : DefI} (h : T.defs[i]? = some d) : FnOk X.prog X.w X.K X.mg X.base CX0 (4 * k + 1) (A.fa i) (A.fd i) d.ps (liftSp W d.ps.length (spF (callK T.dfs k i))) := (G.snd i d h).mono (by omega)
theorem args_len {c : Call} {ρ : Rho} {M M' : MS} {xs svs : List SV} {ν : List Addr} {d : DefI} {n j : Nat} (h : evA c ras ρ M = some (xs, M')) (hl : lenA ras = n) (rl : RelL ν xs svs) (q : n + j + (dfl d (n + j)).length = d.ps.length) : svs.length + ((dfl d (n + j)).map SV.d).length + j = d.ps.length := by
  have e2 := plen rl
  have e3 := evA_len h
  rw [List.length_map, ← e2, e3, hl]
  omega
theorem se_call {x : Str} {f n : Nat} {d : DefI} {dv : List D} {sh : Bool} (hg : globB C x = true) (hf : (x, f) ∈ T.globs) (hd : T.defs[f]? = some d) (hn : (f, n + 0) ∈ T.bnds) (hdv : dv = dfl d (n + 0)) (hl : lenA ras = n) (hna : nsB a = true) (hs : es.all nsB = true) (ha : SA T A W C (a :: es) ras) : SE T A W C (.Call (.Name x p) (a :: es) [] pos) (.call f dv sh ras) := fun k X G ρ M v M' he ν g ρR Cf R => by
  unfold evE at he
  obtain ⟨⟨xs, M1⟩, h1, h2⟩ := bind_inv he
  obtain ⟨gl, hdb⟩ := G.gl hg
  obtain ⟨hm, hk⟩ := G.fct.glob x f hf
  obtain ⟨dvs, ds, q1, q2, q3, q4⟩ := G.fct.bnd f _ d hn hd
  subst hdv
  have F := G.fnok hd
  rw [← G.hK] at q2 hk
  refine we_any (sh := sh) (we_call F G.room gl hm hk q2 q1 q3 ((ha k X G ρ M xs M1 h1 ν g ρR Cf R).imp fun svs g1 ⟨ν1, N1, rl⟩ => ⟨args_len h1 hl rl q4, any_sp h2 N1.cfg (papp rl (relL_dd _)) fun s g' p => p.back N1⟩) hdb (star_ns hna) (star_all hs))
theorem se_call0 {x : Str} {f : Nat} {d : DefI} {dv : List D} {sh : Bool} (hg : globB C x = true) (hf : (x, f) ∈ T.globs) (hd : T.defs[f]? = some d) (hn : (f, 0 + 0) ∈ T.bnds) (hdv : dv = dfl d (0 + 0)) : SE T A W C (.Call (.Name x p) [] [] pos) (.call f dv sh .nil) := fun k X G ρ M v M' he ν g ρR Cf R => by
  unfold evE at he
  obtain ⟨⟨xs, M1⟩, h1, h2⟩ := bind_inv he
  unfold evA at h1; cases h1
  obtain ⟨gl, hdb⟩ := G.gl hg
  obtain ⟨hm, hk⟩ := G.fct.glob x f hf
  obtain ⟨dvs, ds, q1, q2, q3, q4⟩ := G.fct.bnd f _ d hn hd
  subst hdv
  have F := G.fnok hd
  rw [← G.hK] at q2 hk
  refine we_any (sh := sh) (we_call0 F G.room gl hm hk q2 q1 q3 ⟨by rw [List.length_map]; omega, ?_⟩ hdb)
  dsimp only [List.nil_append] at h2
  exact any_sp h2 Cf (relL_dd _) fun s g' p => p
/-! ### new things -/
theorem we_make0 {X : Cx} {g : G} {ρ : Rho} {Q : QE} {c k n : Nat} {x : Str} {f : Addr} {fd : FuncData} {ps : List Str} {S : SpD} {dsv : List SV} {dvs : List V} {ds : List Value} (M : Mk X.K (W.cl c) f) (F : FnOk X.prog X.w X.K X.mg X.base CX0 k f fd ps (liftSp W n S)) (hr : Room (k + 1) X.A) (hg : Gl X x) (hm : X.mg x = some (.ref (W.cl c))) (hb : Binds X.K fd ps ds) (hd : Vals dvs ds) (hds : DefV W dsv dvs)
    (h : dsv.length + 1 = n ∧ ∀ a, g a = none → S (.ob a :: dsv) (gset g a (.ins c [])) fun r g2 => r = .d .non ∧ Q (.ob a) g2) (hdb : (x == ("__debug__" : Str)) = false := by decide) : WE X W (.Call (.Name x p) [] [] pos) ρ g Q := fun σ H S' Q' q' => by
  refine ts_of (pe_make0 M F hr hg hm hb hd pass0 hdb) ?_
  obtain ⟨hl, h1⟩ := h
  have k1 := S'.ok
  intro a dx na nd ne
  have nx : upd H dx (.own a) a = none := by rw [upd_ne ne.symm]; exact na
  have e2 : Ext g H g (upd H dx (.own a)) := Ext.new nd
  have k2 : GOk W (upd H dx (.own a)) g := k1.new nd
  have e3 : Ext g (upd H dx (.own a)) (gset g a (.ins c [])) (upd (upd H dx (.own a)) a (.ins (W.cl c) dx [])) := Ext.newOb nx
  have k3 : GOk W (upd (upd H dx (.own a)) a (.ins (W.cl c) dx [])) (gset g a (.ins c [])) := k2.newOb (m := .ins c []) nx ⟨dx, [], upd_same, rfl⟩
  have r3 : RepSs W (upd (upd H dx (.own a)) a (.ins (W.cl c) dx [])) (gset g a (.ins c [])) dsv dvs := hds _ _ k3
  refine ⟨by rw [List.length_cons, List.nil_append, ← r3.length]; exact hl, .ob a :: dsv, _, _, ⟨.ref a, _, rfl, rfl, r3⟩, k3, h1 a (k1.free na), fun v H' ⟨r, g', k4, e4, r4, hr, q⟩ => ?_⟩
  subst hr
  exact ⟨r4, q' _ _ ⟨.ob a, g', k4, (e2.trans e3).trans e4, rfl, q⟩⟩
theorem mk_sp {c : Call} {sh : Bool} {f kc : Nat} {xs svs : List SV} {v : SV} {M M' : MS} {ν : List Addr} {g : G} {p : Addr} {Q : QE} (h : (if sh then match c f (.ob M.length :: xs) (M ++ [some (.ins kc [])]) with
      | some (.d .non, M1) => some (SV.ob M.length, M1)
      | _ => none
    else pureMk c kc f xs M) = some (v, M')) (Cf : Cfg ν M g) (R : RelL ν xs svs) (hp : g p = none) (hq : ∀ s g', PV ν M g v M' s g' → Q s g') : spF (c f) (.ob p :: svs) (gset g p (.ins kc [])) fun r g2 => r = .d .non ∧ anyQ sh Q (.ob p) g2 := by
  cases sh with
  | true =>
    rw [if_pos rfl] at h
    split at h
    · rename_i M1 e
      cases h
      have N := Nxt.new (o := .ins kc []) (u := .ins kc []) Cf hp ⟨rfl, .nil⟩
      refine ⟨_, _, _, _, _, N.cfg, .cons ?_ (N.rl R), e, fun s g' ⟨ν2, N2, rs⟩ => ⟨relS_d rs, ?_⟩⟩
      · show (ν ++ [p])[M.length]? = some p
        rw [← Cf.len]; simp
      · unfold anyQ
        rw [if_pos rfl]
        refine hq _ _ ⟨ν2, N.trans N2, N2.rs (v := .ob M.length) (s := .ob p) ?_⟩
        show (ν ++ [p])[M.length]? = some p
        rw [← Cf.len]; simp
    · cases h
  | false =>
    rw [if_neg (by decide)] at h
    unfold pureMk at h
    split at h
    · rename_i ds e
      split at h
      · rename_i M1 e2
        split at h
        · rename_i d e3
          cases h
          have N := Nxt.new (o := .ins kc []) (u := .ins kc []) (Cfg.nil g) hp ⟨rfl, .nil⟩
          refine ⟨_, _, _, _, _, N.cfg, .cons ?_ ?_, e2, fun s g' ⟨ν2, N2, rs⟩ => ⟨relS_d rs, ?_⟩⟩
          · rfl
          · rw [allD_eq e] at R
            rw [relL_d R]; exact relL_dd ds
          · unfold anyQ
            rw [if_neg (by decide)]
            exact ⟨ν2, M1, .ob 0, d, 8, N2.cfg, N2.rs (v := .ob 0) (s := .ob p) rfl, e3, hq _ _ ⟨ν, cut_nxt Cf (N.trans N2), (show d = d from rfl)⟩⟩
        · cases h
      · cases h
    · cases h
theorem se_make {x : Str} {c f n : Nat} {d : DefI} {dv : List D} {sh : Bool} (hg : globB C x = true) (hc : (x, c) ∈ T.cnames) (hi : (c, f) ∈ T.inits) (hd : T.defs[f]? = some d) (hn : (f, n + 1) ∈ T.bnds) (hdv : dv = dfl d (n + 1)) (hl : lenA ras = n) (hna : nsB a = true) (hs : es.all nsB = true) (ha : SA T A W C (a :: es) ras) : SE T A W C (.Call (.Name x p) (a :: es) [] pos) (.make c f dv sh ras) := fun k X G ρ M v M' he ν g ρR Cf R => by
  unfold evE at he
  obtain ⟨⟨xs, M1⟩, h1, h2⟩ := bind_inv he
  obtain ⟨gl, hdb⟩ := G.gl hg
  obtain ⟨hm, hk⟩ := G.fct.cname x c hc
  obtain ⟨dvs, ds, q1, q2, q3, q4⟩ := G.fct.bnd f _ d hn hd
  subst hdv
  have F := G.fnokM hd
  have MK := G.fct.init c f hi
  rw [← G.hK] at q2 MK
  refine we_any (sh := sh) (we_make MK F G.room gl hm q2 q1 q3 ((ha k X G ρ M xs M1 h1 ν g ρR Cf R).imp fun svs g1 ⟨ν1, N1, rl⟩ => ⟨args_len h1 hl rl q4, fun p hp => mk_sp h2 N1.cfg (papp rl (relL_dd _)) hp fun s g' p => p.back N1⟩) hdb (star_ns hna) (star_all hs))
theorem se_make0 {x : Str} {c f : Nat} {d : DefI} {dv : List D} {sh : Bool} (hg : globB C x = true) (hc : (x, c) ∈ T.cnames) (hi : (c, f) ∈ T.inits) (hd : T.defs[f]? = some d) (hn : (f, 0 + 1) ∈ T.bnds) (hdv : dv = dfl d (0 + 1)) : SE T A W C (.Call (.Name x p) [] [] pos) (.make c f dv sh .nil) := fun k X G ρ M v M' he ν g ρR Cf R => by
  unfold evE at he
  obtain ⟨⟨xs, M1⟩, h1, h2⟩ := bind_inv he
  unfold evA at h1; cases h1
  obtain ⟨gl, hdb⟩ := G.gl hg
  obtain ⟨hm, hk⟩ := G.fct.cname x c hc
  obtain ⟨dvs, ds, q1, q2, q3, q4⟩ := G.fct.bnd f _ d hn hd
  subst hdv
  have F := G.fnokM hd
  have MK := G.fct.init c f hi
  rw [← G.hK] at q2 MK
  dsimp only [List.nil_append] at h2
  refine we_any (sh := sh) (we_make0 MK F G.room gl hm q2 q1 q3 ⟨by rw [List.length_map]; omega, fun p hp => mk_sp h2 Cf (relL_dd _) hp fun s g' p => p⟩ hdb)
/-! ### methods -/
def MethsOk (T : Tab) (nm : Str) (n : Nat) (dv : List D) : List (Nat × Nat) → Prop
  | [] => True
  | (c, f) :: m => c ∈ T.clss ∧ (c, nm, f) ∈ T.meths ∧ (f, n) ∈ T.bnds ∧ (∃ d, T.defs[f]? = some d ∧ dv = dfl d n) ∧ MethsOk T nm n dv m
theorem meths_ok {nm : Str} {n : Nat} {dv : List D} {c f : Nat} : ∀ {m : List (Nat × Nat)}, MethsOk T nm n dv m → m.lookup c = some f → c ∈ T.clss ∧ (c, nm, f) ∈ T.meths ∧ (f, n) ∈ T.bnds ∧ ∃ d, T.defs[f]? = some d ∧ dv = dfl d n
  | [], _, h => by cases h
  | (k, j) :: m, ⟨h1, h2, h3, h4, h5⟩, h => by
    rw [List.lookup_cons] at h
    cases z : c == k with
    | true =>
      rw [z] at h
      cases h
      have : c = k := by simpa using z
      subst this
      exact ⟨h1, h2, h3, h4⟩
    | false => rw [z] at h; exact meths_ok h5 h
theorem relF_none {κ : Type} [BEq κ] {ν : List Addr} : ∀ {fs gs : List (κ × SV)} {f : κ}, RelF ν fs gs → fs.lookup f = none → gs.lookup f = none
  | _, _, _, .nil, h => rfl
  | (k, x) :: fs, _, f, .cons (b := q) r t, h => by
    obtain ⟨k', y⟩ := q
    obtain ⟨e, r⟩ := r
    cases (show k = k' from e)
    rw [List.lookup_cons] at h ⊢
    cases z : f == k with
    | true => rw [z] at h; cases h
    | false => rw [z] at h; exact relF_none t h
theorem insOf_rel {M : MS} {x sx : SV} {c : Nat} {nm : Str} {ν : List Addr} {g : G} (Cf : Cfg ν M g) (hc : clsOf M x = some c) (h : (fldOf M nm x).isNone = true) (r : RelS ν x sx) : InsOf W g c nm sx := by
  rcases clsOf_ins hc with ⟨fs, rfl⟩ | ⟨i, fs, rfl, e⟩
  · rw [relS_d r]
    have h : ((fs.lookup nm).map SV.d).isNone = true := h
    refine ⟨rfl, ?_⟩
    cases z : fs.lookup nm with
    | none => rfl
    | some d => rw [z] at h; cases h
  · have h : (match obj M i with | some (.ins _ fs) => fs.lookup nm | _ => none).isNone = true := h
    rw [e] at h
    obtain ⟨a, u, rfl, ha, hu, ho⟩ := Cf.obj e r
    obtain ⟨gs, rfl, rg⟩ := relO_ins ho
    refine ⟨gs, hu, relF_none rg ?_⟩
    cases z : fs.lookup nm with
    | none => rfl
    | some d => simp [z] at h
theorem meth_ht {env : Env} {m : Str} {es : List Expr} (hb : baseB o = true) (hall : es.all nsB = true) (h30 : es.length < 30) (hl : (apos.endLine == pos.line) = true) : eval (.Call (.Attribute o m apos) es [] pos) env = (do
      let ov ← eval o env
      standAt apos.atName
      let (f, first) ← holding [ov] (getMethod ov m (do return (← importBound o env).getD true))
      callWith pos f first (backTo pos (starEach es env)) (backToKw pos (keywordEach [] env))) := by
  have e1 : methodCallForm (es.length + ([] : List Keyword).length) (backTo pos (starEach es env)) (backToKw pos (keywordEach [] env)) = true := few_ok hall h30
  show (do
    let ov ← attributeBase o m env (eval o env)
    standAt apos.atName
    methodCall o m apos pos env ov (es.length + ([] : List Keyword).length) (backTo pos (starEach es env)) (backToKw pos (keywordEach [] env))) = _
  rw [base_eq hb]
  unfold methodCall
  rw [e1]
  unfold calleeOf methodCallPos
  rw [hl]
  rfl
theorem se_meth {nm : Str} {m : List (Nat × Nat)} {n : Nat} {dv : List D} {sh : Bool} (hm : MethsOk T nm (n + 1) dv m) (hl : lenA ras = n) (hb : baseB o = true) (hll : (apos.endLine == pos.line) = true) (hna : nsB a = true) (hs : es.all nsB = true) (h30 : (a :: es).length < 30) (h0 : SE T A W C o ra) (ha : SA T A W C (a :: es) ras) : SE T A W C (.Call (.Attribute o nm apos) (a :: es) [] pos) (.meth nm m dv sh ra ras) := fun k X G ρ M v M' he ν g ρR Cf R => by
  unfold evE at he
  obtain ⟨⟨x, M1⟩, h1, h2⟩ := bind_inv he
  obtain ⟨hf, h2⟩ := if_inv h2
  obtain ⟨c, h3, h4⟩ := bind_inv h2
  obtain ⟨f, h5, h6⟩ := bind_inv h4
  obtain ⟨⟨xs, M2⟩, h7, h8⟩ := bind_inv h6
  obtain ⟨m1, m2, m3, d, hd, hdv⟩ := meths_ok hm h5
  obtain ⟨dvs, ds, q1, q2, q3, q4⟩ := G.fct.bnd f _ d m3 hd
  subst hdv
  have F := G.fnok hd
  have hall : (a :: es).all nsB = true := by rw [List.all_cons, hna, hs]; rfl
  have mt := G.fct.meth _ _ _ m2
  have c1 := (G.fct.cls c m1).c
  rw [← G.hK] at q2 mt c1
  refine we_any (sh := sh) (we_meth c1 mt F G.room q2 q1 q3 ((h0 k X G ρ M x M1 h1 ν g ρR Cf R).imp fun sx g1 ⟨ν1, N1, r1⟩ => ⟨insOf_rel N1.cfg h3 hf r1, (ha k X G ρ M1 xs M2 h7 ν1 g1 ρR N1.cfg (N1.rr R)).imp fun svs g2 ⟨ν2, N2, rl⟩ => ⟨args_len h7 hl rl q4, any_sp h8 N2.cfg (.cons (N2.rs r1) (papp rl (relL_dd _))) fun s g' p => (p.back N2).back N1⟩⟩) (star_ns hna) (star_all hs) (meth_ht hb hall h30 hll))
theorem se_meth0 {nm : Str} {m : List (Nat × Nat)} {dv : List D} {sh : Bool} (hm : MethsOk T nm (0 + 1) dv m) (hb : baseB o = true) (hll : (apos.endLine == pos.line) = true) (h0 : SE T A W C o ra) : SE T A W C (.Call (.Attribute o nm apos) [] [] pos) (.meth nm m dv sh ra .nil) := fun k X G ρ M v M' he ν g ρR Cf R => by
  unfold evE at he
  obtain ⟨⟨x, M1⟩, h1, h2⟩ := bind_inv he
  obtain ⟨hf, h2⟩ := if_inv h2
  obtain ⟨c, h3, h4⟩ := bind_inv h2
  obtain ⟨f, h5, h6⟩ := bind_inv h4
  obtain ⟨⟨xs, M2⟩, h7, h8⟩ := bind_inv h6
  unfold evA at h7; cases h7
  obtain ⟨m1, m2, m3, d, hd, hdv⟩ := meths_ok hm h5
  obtain ⟨dvs, ds, q1, q2, q3, q4⟩ := G.fct.bnd f _ d m3 hd
  subst hdv
  have F := G.fnok hd
  have mt := G.fct.meth _ _ _ m2
  have c1 := (G.fct.cls c m1).c
  rw [← G.hK] at q2 mt c1
  refine we_any (sh := sh) (we_meth0 c1 mt F G.room q2 q1 q3 ((h0 k X G ρ M x _ h1 ν g ρR Cf R).imp fun sx g1 ⟨ν1, N1, r1⟩ => ⟨insOf_rel N1.cfg h3 hf r1, by rw [List.length_map]; omega, any_sp h8 N1.cfg (.cons r1 (relL_dd _)) fun s g' p => p.back N1⟩) (meth_ht hb rfl (by decide) hll))
end
end EV

set_option autoImplicit false
/-! what is walked; comprehensions -/
namespace EV
open PySem PySem.Spec PyProof.Rows L2 DL
/-! ### targets -/
def slots : ITg → List Nat
  | .nm i => [i]
  | .tp is => is
  | .nst i is => i :: is
def tgs : List Nat → TGs
  | [] => gNil
  | i :: is => gCons (gName i) (tgs is)
def tgOf (K : PySem.W.Frag) : ITg → TG
  | .nm i => gName i
  | .tp is => gTup K is.length (tgs is)
  | .nst i is => gTup K 2 (gCons (gName i) (gCons (gTup K is.length (tgs is)) gNil))
def tgB (C : CC) (i : Nat) (x : Str) : Bool := decide (C.N[i]? = some x) && (decide (C.sc.names.lookup x = some .local) || (C.df && decide (C.sc.names.lookup x = some .cell)))
def SG (C : CC) (tg : Expr) (t : ITg) : Prop := ∀ T A W k X, Good T A W C k X → PG X tg (tgOf X.K t)
def SGs (C : CC) (es : List Expr) (is : List Nat) : Prop := ∀ T A W k X, Good T A W C k X → PGs X es (tgs is) ∧ (assignEach es X.env).length = is.length ∧ (assignEach es X.env).findIdx? (·.1) = none
section
variable {C : CC} {pos : Pos} {x : Str} {i : Nat} {is : List Nat} {es : List Expr}
theorem tgB_ok {T : Tab} {A : Adr} {W : Wd} {k : Nat} {X : Cx} (G : Good T A W C k X) (h : tgB C i x = true) : X.N[i]? = some x ∧ Loc X.env.scope x ∧ (X.fn x = true ∨ X.env.scope.names.lookup x = some .local) := by
  unfold tgB at h
  obtain ⟨h1, h2⟩ := Bool.and_eq_true_iff.mp h
  refine ⟨by rw [G.N]; exact of_decide_eq_true h1, ?_⟩
  rcases Bool.or_eq_true_iff.mp h2 with h2 | h2
  · have e := of_decide_eq_true h2
    rw [← G.sc] at e
    exact ⟨.inl e, .inr e⟩
  · obtain ⟨h3, h4⟩ := Bool.and_eq_true_iff.mp h2
    have e := of_decide_eq_true h4
    rw [← G.sc] at e
    exact ⟨.inr e, .inl (G.fnc h3 x)⟩
theorem sg_nm (h : tgB C i x = true) : SG C (.Name x pos) (.nm i) := fun T A W k X G => by
  obtain ⟨h1, h2, h3⟩ := tgB_ok G h
  exact pg_name G.nd h1 h2 h3
theorem sgs_nil : SGs C [] [] := fun T A W k X G => ⟨pgs_nil, rfl, rfl⟩
theorem sgs_cons (h : tgB C i x = true) (t : SGs C es is) : SGs C (.Name x pos :: es) (i :: is) := fun T A W k X G => by
  obtain ⟨h1, h2, h3⟩ := tgB_ok G h
  obtain ⟨t1, t2, t3⟩ := t T A W k X G
  refine ⟨pgs_cons (pg_name G.nd h1 h2 h3) t1 rfl, congrArg (· + 1) t2, ?_⟩
  show List.findIdx? (·.1) ((false, assign (.Name x pos) X.env) :: assignEach es X.env) = none
  rw [List.findIdx?_cons]
  simp [t3]
theorem sg_tp {kk : Nat} (t : SGs C es is) : SG C (.Tuple es kk pos) (.tp is) := fun T A W k X G => by
  obtain ⟨t1, t2, t3⟩ := t T A W k X G
  exact pg_tup G.calm t1 t2 t3
theorem sg_nst {kk kk2 : Nat} {pos1 pos2 : Pos} (h : tgB C i x = true) (t : SGs C es is) : SG C (.Tuple [.Name x pos1, .Tuple es kk2 pos2] kk pos) (.nst i is) := fun T A W k X G => by
  obtain ⟨h1, h2, h3⟩ := tgB_ok G h
  obtain ⟨t1, t2, t3⟩ := t T A W k X G
  exact pg_tup (n := 2) G.calm (pgs_cons (pg_name G.nd h1 h2 h3) (pgs_cons (pg_tup G.calm t1 t2 t3) pgs_nil rfl) rfl) rfl rfl
end
theorem wipe_get : ∀ (vs : List Nat) (σ : L2.St) (i : Nat), (L2.wipe σ vs)[i]? = if i ∈ vs then (if i < σ.length then some none else none) else σ[i]?
  | [], σ, i => by simp [L2.wipe]
  | v :: vs, σ, i => by
    show ((L2.wipe σ vs).set v none)[i]? = _
    by_cases h : v = i
    · subst h
      by_cases hl : v < σ.length
      · rw [List.getElem?_set_self (by rw [L2.wipe_length]; exact hl), if_pos List.mem_cons_self, if_pos hl]
      · rw [List.getElem?_eq_none (by rw [List.length_set, L2.wipe_length]; omega), if_pos List.mem_cons_self, if_neg hl]
    · rw [List.getElem?_set_ne h, wipe_get vs]
      by_cases hm : i ∈ vs
      · rw [if_pos hm, if_pos (List.mem_cons_of_mem _ hm)]
      · rw [if_neg hm, if_neg (by simp only [List.mem_cons, not_or]; exact ⟨fun z => h z.symm, hm⟩)]
theorem wipe_same {vs : List Nat} {σ τ : L2.St} (hl : σ.length = τ.length) (h : ∀ i, i ∉ vs → σ[i]? = τ[i]?) : L2.wipe σ vs = L2.wipe τ vs := by
  apply List.ext_getElem?
  intro i
  rw [wipe_get, wipe_get, hl]
  by_cases hi : i ∈ vs
  · rw [if_pos hi, if_pos hi]
  · rw [if_neg hi, if_neg hi, h i hi]
theorem wipe_put {vs : List Nat} {σ : L2.St} {j : Nat} {y : Option V} (hj : j ∈ vs) : L2.wipe (σ.set j y) vs = L2.wipe σ vs :=
  wipe_same (by simp) fun i hi => List.getElem?_set_ne (fun z => hi (by rw [← z]; exact hj))
theorem wipe_wipe {vs : List Nat} {σ : L2.St} : L2.wipe (L2.wipe σ vs) vs = L2.wipe σ vs :=
  wipe_same (by rw [L2.wipe_length]) fun i hi => by rw [wipe_get, if_neg hi]
section
variable {W : Wd} {g : G} {H : Hp} {ν : List Addr} {vs : List Nat}
theorem tgs_run : ∀ {is : List Nat} {us svs : List SV} {xs : List V} {ρ ρ' ρR : Rho} {σ : L2.St} {N : L2.St → Hp → Prop}, (∀ i ∈ is, i ∈ vs) → setAll is us ρ = some ρ' → RelR ν ρ ρR → RelL ν us svs → Sim W ρR g σ H → RepSs W H g svs xs →
    (∀ ρ2 σ', RelR ν ρ' ρ2 → Sim W ρ2 g σ' H → L2.wipe σ' vs = L2.wipe σ vs → N σ' H) → tgs is xs σ H N
  | [], [], _, xs, ρ, ρ', ρR, σ, N, _, h, R, .nil, S, rr, q => by
    unfold setAll at h; cases h
    exact ⟨rr, q _ _ R S rfl⟩
  | [], _ :: _, _, _, _, _, _, _, _, _, h, _, _, _, _, _ => by unfold setAll at h; cases h
  | _ :: _, [], _, _, _, _, _, _, _, _, h, _, _, _, _, _ => by unfold setAll at h; cases h
  | i :: is, u :: us, _, xs, ρ, ρ', ρR, σ, N, hv, h, R, .cons r rs, S, rr, q => by
    unfold setAll at h
    obtain ⟨x, xr, rfl, r1, r2⟩ := rr
    refine ⟨x, xr, rfl, ?_⟩
    refine tgs_run (fun j hj => hv j (List.mem_cons_of_mem _ hj)) h (pset (show RelP ν (some u) (some _) from r) i R) rs (S.set i r1) r2 fun ρ2 σ' h1 h2 h3 => q ρ2 σ' h1 h2 ?_
    rw [h3, wipe_put (hv i List.mem_cons_self)]
theorem tg_run {t : ITg} {v sv : SV} {x : V} {ρ ρ' ρR : Rho} {σ : L2.St} {N : L2.St → Hp → Prop} (hv : ∀ i ∈ slots t, i ∈ vs) (h : bindT t v ρ = some ρ') (R : RelR ν ρ ρR) (r : RelS ν v sv) (S : Sim W ρR g σ H) (rr : RepS W H g sv x)
    (q : ∀ ρ2 σ', RelR ν ρ' ρ2 → Sim W ρ2 g σ' H → L2.wipe σ' vs = L2.wipe σ vs → N σ' H) : tgOf W.K t x σ H N := by
  cases t with
  | nm i =>
    unfold bindT at h; cases h
    exact q _ _ (pset (show RelP ν (some v) (some sv) from r) i R) (S.set i rr) (wipe_put (hv i List.mem_cons_self))
  | tp is =>
    unfold bindT at h
    split at h
    · cases ‹ITg.tp is = ITg.nm _›
    · rename_i is' l e
      cases e
      cases relS_d r
      obtain ⟨a, xs, rfl, h1, h2⟩ := rr
      have hl : ∀ {is : List Nat} {us : List SV} {ρ ρ' : Rho}, setAll is us ρ = some ρ' → us.length = is.length := by
        intro is
        induction is with
        | nil => intro us ρ ρ' h; cases us with
          | nil => rfl
          | cons _ _ => unfold setAll at h; cases h
        | cons i is ih => intro us ρ ρ' h; cases us with
          | nil => unfold setAll at h; cases h
          | cons u us => unfold setAll at h; exact congrArg (· + 1) (ih h)
      have hl := hl h
      refine ⟨a, xs, rfl, h1.sq, ?_, tgs_run hv h R (relL_dd l) S (reps_to h2) q⟩
      rw [← h2.length, ← hl, List.length_map]
    · rename_i e _
      cases (show ITg.tp is = ITg.nst _ _ by assumption)
    · cases h
  | nst i is =>
    unfold bindT at h
    split at h
    · cases ‹ITg.nst i is = ITg.nm _›
    · cases ‹ITg.nst i is = ITg.tp _›
    · rename_i i' is' x0 l e
      cases e
      cases relS_d r
      obtain ⟨a, xs, rfl, h1, y, ys, rfl, r0, z, zs, rfl, r2, h3⟩ := rr
      cases (show zs = [] from h3)
      obtain ⟨b, ws, rfl, h5, h6⟩ := r2
      have hl : ∀ {is : List Nat} {us : List SV} {ρ ρ' : Rho}, setAll is us ρ = some ρ' → us.length = is.length := by
        intro is
        induction is with
        | nil => intro us ρ ρ' h; cases us with
          | nil => rfl
          | cons _ _ => unfold setAll at h; cases h
        | cons i is ih => intro us ρ ρ' h; cases us with
          | nil => unfold setAll at h; cases h
          | cons u us => unfold setAll at h; exact congrArg (· + 1) (ih h)
      have hl := hl h
      refine ⟨a, [y, .ref b], rfl, h1.sq, rfl, y, [.ref b], rfl, ?_⟩
      refine ⟨.ref b, [], rfl, ⟨b, ws, rfl, h5.sq, ?_, ?_⟩⟩
      · rw [← h6.length, ← hl, List.length_map]
      · refine tgs_run (fun j hj => hv j (List.mem_cons_of_mem _ hj)) h (pset (show RelP ν (some (.d x0)) (some (.d x0)) from show x0 = x0 from rfl) i R) (relL_dd l) (S.set i (show RepS W H g (.d x0) y from r0)) (reps_to h6) fun ρ2 σ' k1 k2 k3 => ⟨rfl, q ρ2 σ' k1 k2 ?_⟩
        rw [k3, wipe_put (hv i List.mem_cons_self)]
    · cases h
end
/-! ### what is walked -/
def itemAt (is : Its) (i : Nat) (M : MS) : Option (Option SV) := match is with
  | .xs l => some l[i]?
  | .ob a => match obj M a with
    | some (.lst l) => some l[i]?
    | _ => none
def ItOk (W : Wd) (ν : List Addr) (g1 : G) (H1 : Hp) (J : It) (is : Its) : Prop := ∀ ν2 M g H, (∃ t, ν2 = ν ++ t) → Cfg ν2 M g → GOk W H g → Ext g1 H1 g H → ∀ i,
  (∀ v, itemAt is i M = some (some v) → J.go i H ∧ ∀ x H', J.yld i H x H' → ∃ sv, RelS ν2 v sv ∧ GOk W H' g ∧ Ext g H g H' ∧ RepS W H' g sv x) ∧ (itemAt is i M = some none → J.stop i H)
def SI (T : Tab) (A : Adr) (W : Wd) (C : CC) (tg e : Expr) (it : II) : Prop := ∀ k X, Good T A W C k X → ∀ ρ M is M', evI (callK T.dfs k) it ρ M = some (is, M') → ∀ ν g ρR, Cfg ν M g → RelR ν ρ ρR → ∃ wi : TI, PI X tg e wi ∧
  ∀ σ H, Sim W ρR g σ H → ∀ R : It → Hp → Prop, (∀ J H1 g1 ν1, Nxt ν M g ν1 M' g1 → GOk W H1 g1 → Ext g H g1 H1 → ItOk W ν1 g1 H1 J is → R J H1) → wi σ H R
section
variable {W : Wd} {ν : List Addr} {g1 : G} {H1 : Hp} {a : Addr} {xs : List V} {l : List D}
theorem reps_at {H : Hp} {g : G} {i : Nat} {v : SV} {x : V} (h : Reps W H g l xs) (hv : (l.map SV.d)[i]? = some v) (hx : xs[i]? = some x) : ∃ d, v = .d d ∧ Rep W H g d x := by
  obtain ⟨d, h1, h2⟩ := h.got hx
  rw [List.getElem?_map, h1] at hv
  cases hv
  exact ⟨d, rfl, h2⟩
theorem reps_has {H : Hp} {g : G} {i : Nat} {v : SV} (h : Reps W H g l xs) (hv : (l.map SV.d)[i]? = some v) : ∃ x, xs[i]? = some x := by
  have : i < xs.length := by
    rw [← h.length]
    have := (List.getElem?_eq_some_iff.mp hv).1
    simpa using this
  exact ⟨xs[i], by simp [this]⟩
theorem reps_end {H : Hp} {g : G} {i : Nat} (h : Reps W H g l xs) (hv : (l.map SV.d)[i]? = none) : xs.length ≤ i := by
  rw [← h.length]
  simpa using hv
theorem it_list (h1 : SL W.K H1 g1 a xs) (h2 : Reps W H1 g1 l xs) : ItOk W ν g1 H1 (Itl W.K a) (.xs (l.map SV.d)) := fun ν2 M g H _ C k ex i => by
  have q : SqL W.K H a xs := (h1.ext ex).sq
  have r : Reps W H g l xs := Reps.ext ex l xs h2
  refine ⟨fun v hv => ?_, fun hv => ⟨xs, q, reps_end r (Option.some.inj hv)⟩⟩
  have hv := Option.some.inj hv
  obtain ⟨x0, hx0⟩ := reps_has r hv
  refine ⟨⟨xs, x0, q, hx0⟩, fun x H' ⟨e, hx⟩ => ?_⟩
  subst e
  obtain ⟨d, rfl, rd⟩ := reps_at r hv (hx xs q)
  exact ⟨.d d, rfl, k, Ext.refl _ _, rd⟩
theorem it_tup (h1 : DL.ST W.K H1 g1 a xs) (h2 : Reps W H1 g1 l xs) : ItOk W ν g1 H1 (Itt W.K a) (.xs (l.map SV.d)) := fun ν2 M g H _ C k ex i => by
  have q : SqT W.K H a xs := (h1.ext ex).sq
  have r : Reps W H g l xs := Reps.ext ex l xs h2
  refine ⟨fun v hv => ?_, fun hv => ⟨xs, q, reps_end r (Option.some.inj hv)⟩⟩
  have hv := Option.some.inj hv
  obtain ⟨x0, hx0⟩ := reps_has r hv
  refine ⟨⟨xs, x0, q, hx0⟩, fun x H' ⟨e, hx⟩ => ?_⟩
  subst e
  obtain ⟨d, rfl, rd⟩ := reps_at r hv (hx xs q)
  exact ⟨.d d, rfl, k, Ext.refl _ _, rd⟩
theorem repSs_at {H : Hp} {g : G} {xs : List V} {i : Nat} {x : V} {svs : List SV} {sv : SV} (r : RepSs W H g svs xs) (h : svs[i]? = some sv) (hx : xs[i]? = some x) : RepS W H g sv x := by
  obtain ⟨y, h1, h2⟩ := r.get h
  rw [hx] at h1; cases h1; exact h2
theorem it_ob {i0 : Nat} (ha : ν[i0]? = some a) : ItOk W ν g1 H1 (Itl W.K a) (.ob i0) := fun ν2 M g H ⟨t, et⟩ C k ex i => by
  have key : ∀ {o : Option SV}, itemAt (.ob i0) i M = some o → ∃ l l' xs, obj M i0 = some (.lst l) ∧ o = l[i]? ∧ RelL ν2 l l' ∧ H a = some (.lst xs) ∧ RepSs W H g l' xs := fun {o} h => by
    unfold itemAt at h
    dsimp only at h
    split at h
    · rename_i l e
      cases h
      have hν : ν2[i0]? = some a := by
        subst et
        obtain ⟨hi, _⟩ := List.getElem?_eq_some_iff.mp ha
        rw [List.getElem?_append_left hi]; exact ha
      obtain ⟨b, u, e1, hb, hu, ho⟩ := C.obj e (show RelS ν2 (.ob i0) (.ob a) from hν)
      cases e1
      obtain ⟨l', rfl, rl⟩ := relO_lst ho
      obtain ⟨xs, hx, rx⟩ := k a _ hu
      exact ⟨l, l', xs, e, rfl, rl, hx, rx⟩
    · cases h
  refine ⟨fun v hv => ?_, fun hv => ?_⟩
  · obtain ⟨l, l', xs, e, ho, rl, hx, rx⟩ := key hv
    obtain ⟨sv, h1, h2⟩ := pget rl ho.symm
    obtain ⟨x0, h3, h4⟩ := rx.get h1
    refine ⟨⟨xs, x0, .inl (.inl hx), h3⟩, fun x H' ⟨e, q⟩ => ?_⟩
    subst e
    exact ⟨sv, h2, k, Ext.refl _ _, repSs_at rx h1 (q xs (.inl (.inl hx)))⟩
  · obtain ⟨l, l', xs, e, ho, rl, hx, rx⟩ := key hv
    refine ⟨xs, .inl (.inl hx), ?_⟩
    have e1 := plen rl
    have e2 := rx.length
    have : l.length ≤ i := by simpa using ho.symm
    omega
theorem it_range {lo : Int} {n : Nat} : ItOk W ν g1 H1 (Itr lo n) (.xs ((List.range n).map fun (i : Nat) => SV.d (.int (lo + (i : Int))))) := fun ν2 M g H _ C k ex i => by
  refine ⟨fun v hv => ?_, fun hv => ?_⟩
  · have hv : ((List.range n).map fun (i : Nat) => SV.d (.int (lo + (i : Int))))[i]? = some v := Option.some.inj hv
    rw [List.getElem?_map] at hv
    obtain ⟨j, h1, h2⟩ := map_inv hv
    obtain ⟨hj, h3⟩ := List.getElem?_eq_some_iff.mp h1
    rw [List.getElem_range] at h3
    rw [List.length_range] at hj
    subst h3
    refine ⟨hj, fun x H' ⟨e, q⟩ => ?_⟩
    subst e q h2
    exact ⟨.d (.int (lo + (i : Int))), rfl, k, Ext.refl _ _, rfl⟩
  · have hv : ((List.range n).map fun (i : Nat) => SV.d (.int (lo + (i : Int))))[i]? = none := Option.some.inj hv
    show n ≤ i
    simpa using hv
end
section
variable {T : Tab} {A : Adr} {W : Wd} {C : CC} {tg e a b : Expr} {ra rb : IE} {p pos : Pos}
theorem si_seq (h : SE T A W C e ra) : SI T A W C tg e (.seq ra) := fun k X G ρ M is M' he ν g ρR Cf R => by
  unfold evI at he
  obtain ⟨⟨x, M1⟩, h1, h2⟩ := bind_inv he
  have low : ∀ {l : List SV}, lstOf M1 x = some l → some (Its.xs l, M1) = some (is, M') → (∀ i, x ≠ .ob i) → ∃ wi : TI, PI X tg e wi ∧ ∀ σ H, Sim W ρR g σ H → ∀ R : It → Hp → Prop, (∀ J H1 g1 ν1, Nxt ν M g ν1 M' g1 → GOk W H1 g1 → Ext g H g1 H1 → ItOk W ν1 g1 H1 J is → R J H1) → wi σ H R := fun {l} hl e2 nob => by
    cases e2
    refine ⟨_, pi_list pe_s, fun σ H S R' q => ?_⟩
    refine h k X G ρ M x _ h1 ν g ρR Cf R σ H S _ fun vv H1 ⟨sv, g1, k1, e1, rr, ν1, N1, r1⟩ => ?_
    rw [G.hK]
    cases x with
    | ob i => exact absurd rfl (nob i)
    | d d =>
      cases relS_d r1
      cases d <;> first | (cases hl; done) | skip
      · obtain ⟨a, xs, rfl, h3, h4⟩ := rr
        cases hl
        exact ⟨a, rfl, ⟨xs, h3.sq⟩, q _ _ g1 ν1 N1 k1 e1 (it_list (.inl ⟨.inl h3.1, h3.2⟩) h4)⟩
      · obtain ⟨a, xs, rfl, h3, h4⟩ := rr
        cases hl
        exact ⟨a, rfl, ⟨xs, h3.sq⟩, q _ _ g1 ν1 N1 k1 e1 (it_list h3 h4)⟩
  dsimp only at h2
  split at h2
  · rename_i i
    split at h2
    · rename_i l e
      cases h2
      refine ⟨_, pi_list pe_s, fun σ H S R' q => ?_⟩
      refine h k X G ρ M _ _ h1 ν g ρR Cf R σ H S _ fun vv H1 ⟨sv, g1, k1, e1, rr, ν1, N1, r1⟩ => ?_
      rw [G.hK]
      obtain ⟨ad, u, rfl, ha, hu, ho⟩ := N1.cfg.obj e r1
      obtain ⟨l', rfl, rl⟩ := relO_lst ho
      obtain ⟨xs, hx, rx⟩ := k1 ad _ hu
      cases (show vv = .ref ad from rr)
      exact ⟨ad, rfl, ⟨xs, .inl (.inl hx)⟩, q _ _ g1 ν1 N1 k1 e1 (it_ob ha)⟩
    · cases h2
  · rename_i hx
    obtain ⟨l, hl, e2⟩ := map_inv h2
    cases x with
    | ob i => exact (hx i rfl).elim
    | d d =>
      cases d <;> first | (exact low hl (by rw [e2]) (fun i z => by cases z)) | skip
      rename_i ds
      have hl : some (ds.map SV.d) = some l := hl
      cases hl
      cases e2
      refine ⟨_, pi_tup pe_s, fun σ H S R' q => ?_⟩
      refine h k X G ρ M _ _ h1 ν g ρR Cf R σ H S _ fun vv H1 ⟨sv, g1, k1, e1, rr, ν1, N1, r1⟩ => ?_
      rw [G.hK]
      cases relS_d r1
      obtain ⟨a, xs, rfl, h3, h4⟩ := rr
      exact ⟨a, rfl, ⟨xs, h3.sq⟩, q _ _ g1 ν1 N1 k1 e1 (it_tup h3 h4)⟩
theorem wa_one {X : Cx} {ρ : Rho} {g : G} {Q : List SV → G → Prop} (h : WE X W a ρ g fun s g' => Q [s] g') (he : starEach [a] X.env = (false, eval a X.env) :: starEach [] X.env) : WA X W [a] ρ g Q :=
  wa_cons (h.imp fun s g' q => wa_nil q) he
theorem si_rng (hg : globB C "range" = true) (hf : ("range" : Str) ∈ T.free) (hn : nsB a = true) (h : SE T A W C a ra) : SI T A W C tg (.Call (.Name "range" p) [a] [] pos) (.rng ra) := fun k X G ρ M is M' he ν g ρR Cf R => by
  unfold evI at he
  obtain ⟨⟨x, M1⟩, h1, h2⟩ := bind_inv he
  obtain ⟨gl, hd⟩ := G.gl hg
  refine ⟨_, pi_range1 gl (G.fct.free _ hf) (pa_cons pe_s pa_nil (star_ns hn)) (star_ns hn), fun σ H S R' q => ?_⟩
  dsimp only at h2
  split at h2
  · rename_i n
    obtain ⟨hb, h2⟩ := if_inv h2
    cases h2
    refine h k X G ρ M _ _ h1 ν g ρR Cf R σ H S _ fun vv H1 ⟨sv, g1, k1, e1, rr, ν1, N1, r1⟩ => ?_
    cases relS_d r1
    cases (show vv = .int n from rr)
    refine ⟨n, rfl, by omega, by omega, q _ _ g1 ν1 N1 k1 e1 ?_⟩
    have z := it_range (W := W) (ν := ν1) (g1 := g1) (H1 := H1) (lo := 0) (n := n.toNat)
    simp only [Int.zero_add] at z
    exact z
  · cases h2
theorem si_rng2 (hg : globB C "range" = true) (hf : ("range" : Str) ∈ T.free) (hn : nsB a = true) (hn2 : nsB b = true) (h : SE T A W C a ra) (h' : SE T A W C b rb) : SI T A W C tg (.Call (.Name "range" p) [a, b] [] pos) (.rng2 ra rb) := fun k X G ρ M is M' he ν g ρR Cf R => by
  unfold evI at he
  obtain ⟨⟨x, M1⟩, h1, h2⟩ := bind_inv he
  obtain ⟨⟨y, M2⟩, h3, h4⟩ := bind_inv h2
  obtain ⟨gl, hd⟩ := G.gl hg
  have s2 : ∀ env, starEach [b] env = [(false, eval b env)] := fun env => star_ns hn2
  have s1 : ∀ env, starEach [a, b] env = [(false, eval a env), (false, eval b env)] := fun env => by rw [star_ns hn, s2]
  refine ⟨_, pi_range2 gl (G.fct.free _ hf) (pa_cons pe_s (pa_cons pe_s pa_nil (star_ns hn2)) (star_ns hn)) (s1 _) (s2 _), fun σ H S R' q => ?_⟩
  dsimp only at h4
  split at h4
  · rename_i m n
    obtain ⟨hb, h4⟩ := if_inv h4
    cases h4
    refine h k X G ρ M _ _ h1 ν g ρR Cf R σ H S _ fun vv H1 ⟨sv, g1, k1, e1, rr, ν1, N1, r1⟩ => ?_
    refine h' k X G ρ M1 _ _ h3 ν1 g1 ρR N1.cfg (N1.rr R) σ H1 (S.ext k1 e1) _ fun vv2 H2 ⟨sv2, g2, k2, e2, rr2, ν2, N2, r2⟩ => ?_
    cases relS_d r1
    cases relS_d r2
    cases (show vv = .int m from rr)
    cases (show vv2 = .int n from rr2)
    exact ⟨m, n, rfl, ⟨by omega, by omega, by omega, by omega⟩, q _ _ g2 ν2 (N1.trans N2) k2 (e1.trans e2) it_range⟩
  · cases h4
end
end EV

set_option autoImplicit false
/-! list comprehensions -/
namespace EV
open PySem PySem.Spec PyProof.Rows L2 DL
def relS (scope sc : Scope) : Scope := { scope with names := scope.names.map fun (n, k) => if (k == .free && sc.kind == .function && sc.names.lookup n == some .cell) then (n, .cell) else (n, k) }
def CC.blk (C : CC) (scope : Scope) : CC := ⟨C.N, relS scope C.sc, false⟩
section
variable {T : Tab} {A : Adr} {W : Wd} {C : CC} {k : Nat} {X : Cx}
theorem Good.blk (G : Good T A W C k X) (scope : Scope) : Blk X scope fun Y => Good T A W (C.blk scope) k Y := fun s H D cl fp =>
  { hK := G.hK, hw := G.hw, N := G.N, nd := G.nd, sc := by show relS scope X.env.scope = relS scope C.sc; rw [G.sc], calm := G.calm, room := G.room, xe := rfl, fnc := (fun h => by cases h), fct := G.fct, snd := G.snd }
end
/-- the same loop for both kinds -/
def lcW (b : SV → MS → Option (Option SV × MS)) (is : Its) : Nat → Nat → List SV → MS → Option (List SV × MS)
  | 0, _, _, _ => none
  | n + 1, i, ys, M => match itemAt is i M with
    | none => none
    | some none => some (ys, M)
    | some (some x) => match b x M with
      | some (some y, M) => lcW b is n (i + 1) (ys ++ [y]) M
      | some (none, M) => lcW b is n (i + 1) ys M
      | none => none
theorem lcL_W {b : SV → MS → Option (Option SV × MS)} {l : List SV} : ∀ (n i : Nat) (ys : List SV) (M : MS), n + i = l.length → lcL b (l.drop i) ys M = lcW b (.xs l) (n + 1) i ys M
  | 0, i, ys, M, h => by
    rw [List.drop_eq_nil_of_le (by omega)]
    unfold lcL lcW itemAt
    dsimp only
    rw [List.getElem?_eq_none (by omega)]
  | n + 1, i, ys, M, h => by
    have hi : i < l.length := by omega
    rw [List.drop_eq_getElem_cons hi]
    unfold lcL lcW itemAt
    dsimp only
    rw [List.getElem?_eq_getElem hi]
    dsimp only
    cases e : b l[i] M with
    | none => rfl
    | some p =>
      obtain ⟨o, M1⟩ := p
      cases o with
      | none => exact lcL_W n (i + 1) ys M1 (by omega)
      | some y => exact lcL_W n (i + 1) (ys ++ [y]) M1 (by omega)
theorem lcO_W {b : SV → MS → Option (Option SV × MS)} {a : Nat} : ∀ (n i : Nat) (ys : List SV) (M : MS), lcO b a n i ys M = lcW b (.ob a) n i ys M
  | 0, i, ys, M => rfl
  | n + 1, i, ys, M => by
    unfold lcO lcW itemAt
    dsimp only
    cases obj M a with
    | none => rfl
    | some o =>
      cases o with
      | lst l =>
        dsimp only
        cases l[i]? with
        | none => rfl
        | some x =>
          dsimp only
          cases b x M with
          | none => rfl
          | some p =>
            obtain ⟨o, M1⟩ := p
            cases o with
            | none => exact lcO_W n (i + 1) ys M1
            | some y => exact lcO_W n (i + 1) (ys ++ [y]) M1
      | _ => rfl
/-! something else that may change beside the store -/
section
variable {ν ν' : List Addr} {M M' : MS} {g g' : G} {L : Addr} {o : MO}
theorem Cfg.beside (C : Cfg ν M g) (h : g L = none) : Cfg ν M (gset g L o) := ⟨C.len, fun i u e => by
  obtain ⟨a, v, h1, h2, h3⟩ := C.at_ i u e
  exact ⟨a, v, h1, by rw [gset_ne (fun z => by rw [z, h] at h2; cases h2)]; exact h2, h3⟩, C.inj⟩
theorem Cfg.free (C : Cfg ν M g) (h : g L = none) : ¬ Own ν M L := fun ⟨i, u, h1, h2⟩ => by
  obtain ⟨a, v, h3, h4, _⟩ := C.at_ i u h1
  rw [h2] at h3; cases h3
  rw [h] at h4; cases h4
theorem Nxt.beside (C : Cfg ν M g) (h : g L = none) (N : Nxt ν M (gset g L o) ν' M' g') : g' = gset (gdel g' L) L o ∧ Nxt ν M g ν' M' (gdel g' L) := by
  obtain ⟨h1, h2⟩ := N.frm L o gset_same (C.free h)
  have ne : ∀ {a : Addr} {u : MO}, g a = some u → a ≠ L := fun e z => by rw [z, h] at e; cases e
  refine ⟨?_, N.ext, ⟨N.cfg.len, fun i u e => ?_, N.cfg.inj⟩, fun a u e n => ?_⟩
  · funext a
    by_cases z : a = L
    · subst z; rw [gset_same]; exact h1
    · rw [gset_ne z, gdel_ne z]
  · obtain ⟨a, v, q1, q2, q3⟩ := N.cfg.at_ i u e
    exact ⟨a, v, q1, by rw [gdel_ne (fun z => h2 ⟨i, u, e, by rw [← z]; exact q1⟩)]; exact q2, q3⟩
  · obtain ⟨q1, q2⟩ := N.frm a u (by rw [gset_ne (ne e)]; exact e) n
    exact ⟨by rw [gdel_ne (ne e)]; exact q1, q2⟩
end
/-- the tests -/
def STs (T : Tab) (A : Adr) (W : Wd) (C : CC) : List Expr → IT → Prop
  | [], c => c = .tt
  | [t], c => EV.ST T A W C t c
  | _, _ => False
section
variable {T : Tab} {A : Adr} {W : Wd} {C : CC} {tg iter elt : Expr} {ifs : List Expr} {scope : Scope} {own : List (Str × Nat)} {pos : Pos} {vs : List Nat} {itg : ITg} {it : II} {c : IT} {e : IE}
theorem sts_run {k : Nat} {X : Cx} (G : Good T A W C k X) (h : STs T A W (C.blk scope) ifs c) {ρ : Rho} {M M' : MS} {b : Bool} (he : evT (callK T.dfs k) c ρ M = some (b, M')) {ν : List Addr} {g : DL.G} {ρR : Rho} (Cf : Cfg ν M g) (R : RelR ν ρ ρR) : WTs X W scope ifs ρR g (PB ν M g b M') := by
  match ifs, h with
  | [], h =>
    cases (show c = .tt from h)
    unfold evT at he; cases he
    exact ⟨rfl, ν, Nxt.refl Cf⟩
  | [t], h => exact fun s H D cl fp => h k _ (G.blk scope s H D cl fp) ρ M b M' he ν g ρR Cf R
  | _ :: _ :: _, h => exact False.elim h
theorem relR_wipe {ν : List Addr} {ρ ρR : Rho} (R : RelR ν ρ ρR) : ∀ vs : List Nat, RelR ν (wipeD ρ vs) (wipeD ρR vs)
  | [] => R
  | v :: vs => pset (show RelP ν none none from True.intro) v (relR_wipe R vs)
/-- one turn of a comprehension -/
def lcB (cl : Call) (vs : List Nat) (tg : ITg) (t : IT) (e : IE) (ρ : Rho) : SV → MS → Option (Option SV × MS) := fun x M => (bindT tg x (wipeD ρ vs)).bind fun ρ1 => (evT cl t ρ1 M).bind fun (t, M) => if t then (evE cl e ρ1 M).bind fun (y, M) => some (some y, M) else some (none, M)
theorem lc_evE {cl : Call} {ob : Bool} {ρ : Rho} {M M' : MS} {v : SV} (h : evE cl (.lc ob vs itg it c e) ρ M = some (v, M')) : ∃ is M1 ys M2 n, evI cl it ρ M = some (is, M1) ∧ n ≤ 100001 ∧ lcW (lcB cl vs itg c e ρ) is n 0 [] M1 = some (ys, M2) ∧ ((ob = true ∧ v = .ob M2.length ∧ M' = M2 ++ [some (.lst ys)]) ∨ ∃ l, ob = false ∧ allD ys = some l ∧ v = .d (.lst l) ∧ M' = M2) := by
  unfold evE at h
  obtain ⟨⟨is, M1⟩, h1, h2⟩ := bind_inv h
  obtain ⟨⟨ys, M2⟩, h3, h4⟩ := bind_inv h2
  have fin : (ob = true ∧ v = .ob M2.length ∧ M' = M2 ++ [some (.lst ys)]) ∨ ∃ l, ob = false ∧ allD ys = some l ∧ v = .d (.lst l) ∧ M' = M2 := by
    cases ob with
    | true => exact .inl ⟨rfl, by have h4 : EV.new M2 (.lst ys) = some (v, M') := h4; unfold EV.new at h4; cases h4; exact ⟨rfl, rfl⟩⟩
    | false =>
      obtain ⟨l, h5, h6⟩ := bind_inv (show (allD ys).bind _ = some (v, M') from h4)
      obtain ⟨e1, e2⟩ := ret_inv h6
      exact .inr ⟨l, rfl, h5, e1, e2⟩
  cases is with
  | xs l =>
    obtain ⟨hl, h3⟩ := if_inv (show (if l.length ≤ 100000 then lcL (lcB cl vs itg c e ρ) l [] M1 else none) = some (ys, M2) from h3)
    refine ⟨_, M1, ys, M2, l.length + 1, h1, by omega, ?_, fin⟩
    rw [← lcL_W (l := l) l.length 0 [] M1 (by omega), List.drop_zero]; exact h3
  | ob a =>
    refine ⟨_, M1, ys, M2, 1000, h1, by omega, ?_, fin⟩
    rw [← lcO_W]; exact h3
theorem lc_run {ob : Bool} (hb : blkC C.N C.sc scope own = true) (hvs : vs = own.map (·.2)) (hsl : (slots itg).all (fun i => vs.contains i) = true) (hi : SI T A W C tg iter it) (hg : SG (C.blk scope) tg itg) (hc : STs T A W (C.blk scope) ifs c) (he : SE T A W (C.blk scope) elt e) {k : Nat} {X : Cx} (G : Good T A W C k X) {ρ : Rho} {M M' : MS} {v : SV} (h : evE (callK T.dfs k) (.lc ob vs itg it c e) ρ M = some (v, M')) {ν : List Addr} {g : DL.G} {ρR : Rho} (Cf : Cfg ν M g) (R : RelR ν ρ ρR) : BlkOk X.N X.env.scope scope own ∧ (Blk X scope fun Y => PG Y tg (tgOf X.K itg)) ∧ ∃ wi, PI X tg iter wi ∧ ∀ σ H, Sim W ρR g σ H → ∀ Q' : VK, (∀ v' H', PostE W g H (PV ν M g v M') v' H' → Q' v' H') → tLc wi (tgOf X.K itg) (tTs X scope ifs) (tEl X scope elt) (own.map (·.2)) σ H Q' := by
  obtain ⟨is, M1, yf, Mf, n0, h1, hn, h2, fin⟩ := lc_evE h
  subst hvs
  have hsl : ∀ i ∈ slots itg, i ∈ own.map (·.2) := fun i hi => by
    have := List.all_eq_true.mp hsl i hi
    simpa using this
  have ok : BlkOk X.N X.env.scope scope own := by rw [G.N, G.sc]; exact blkOk_by hb
  obtain ⟨wi, hw, hr⟩ := hi k X G ρ M is M1 h1 ν g ρR Cf R
  refine ⟨ok, (fun s H D cl fp => hg T A W k _ (G.blk scope s H D cl fp)), wi, hw, fun σ H S Q' q' => ?_⟩
  refine hr σ H S _ fun J H1 g1 ν1 N1 k1 e1 io L hL => ?_
  have gL : g1 L = none := k1.free hL
  let Pv : Nat → Nat → Hp → Prop := fun i m H' => ∃ ys Mi νi gi sys, lcW (lcB (callK T.dfs k) (own.map (·.2)) itg c e ρ) is m i ys Mi = some (yf, Mf) ∧ ys.length ≤ i ∧ m + i ≤ 100001 ∧ gi L = none ∧ Nxt ν1 M1 g1 νi Mi gi ∧ RelL νi ys sys ∧ GOk W H' (gset gi L (.lst sys)) ∧ Ext g1 H1 (gset gi L (.lst sys)) H'
  refine ⟨Pv, ⟨n0, [], M1, ν1, g1, [], h2, Nat.le_refl _, by omega, gL, Nxt.refl N1.cfg, .nil, k1.newOb (m := .lst []) hL ⟨[], upd_same, rfl⟩, Ext.newOb hL⟩, ?_⟩
  rintro i m H' ⟨ys, Mi, νi, gi, sys, hl, hy, hm, hgi, Ni, ry, kk, ex⟩
  obtain ⟨t, et⟩ := Ni.ext
  have CL : Cfg νi Mi (gset gi L (.lst sys)) := Ni.cfg.beside hgi
  obtain ⟨it1, it2⟩ := io νi Mi _ H' ⟨t, et⟩ CL kk ex i
  cases m with
  | zero => unfold lcW at hl; cases hl
  | succ m =>
    unfold lcW at hl
    split at hl
    · cases hl
    · rename_i ei
      cases hl
      refine .inl ⟨it2 ei, q' _ _ ?_⟩
      obtain ⟨acc, ha, ra⟩ := kk L _ gset_same
      rcases fin with ⟨rfl, rfl, rfl⟩ | ⟨l, rfl, hall, rfl, rfl⟩
      · exact ⟨.ob L, _, kk, e1.trans ex, rfl, _, N1.trans (Ni.trans (Nxt.new Ni.cfg hgi (show RelO νi (.lst yf) (.lst sys) from ry))), by
          show (νi ++ [L])[Mf.length]? = some L
          rw [← Ni.cfg.len]; simp⟩
      · have e2 : Ext (gset gi L (.lst sys)) H' (gdel (gset gi L (.lst sys)) L) H' := Ext.freeze
        have k2 : GOk W H' (gdel (gset gi L (.lst sys)) L) := kk.freeze
        rw [gdel_gset hgi] at e2 k2
        have er := relL_all ry hall
        subst er
        exact ⟨.d (.lst l), gi, k2, (e1.trans ex).trans e2, ⟨L, acc, rfl, ⟨ha, hgi⟩, reps_of (ra.ext e2)⟩, νi, N1.trans Ni, (show D.lst l = D.lst l from rfl)⟩
    · rename_i x ei
      obtain ⟨j1, j2⟩ := it1 x ei
      refine .inr ⟨j1, Pv (i + 1) m, fun H2 p => ⟨m, Nat.lt_succ_self m, p⟩, fun xv H2 y => ?_⟩
      obtain ⟨sv, rs, kk2, ex2, rr⟩ := j2 xv H2 y
      have S1 : Sim W (wipeD ρR (own.map (·.2))) (gset gi L (.lst sys)) (L2.wipe σ (own.map (·.2))) H2 := ((S.ext k1 e1).ext kk2 (ex.trans ex2)).wipe _
      have RR : RelR νi (wipeD ρ (own.map (·.2))) (wipeD ρR (own.map (·.2))) := relR_wipe (Ni.rr (N1.rr R)) _
      -- the machine's turn
      have turn : ∀ r, lcB (callK T.dfs k) (own.map (·.2)) itg c e ρ x Mi = some r → ∃ ρ1 tb M2, bindT itg x (wipeD ρ (own.map (·.2))) = some ρ1 ∧ evT (callK T.dfs k) c ρ1 Mi = some (tb, M2) ∧ ((tb = true ∧ ∃ yv M3, evE (callK T.dfs k) e ρ1 M2 = some (yv, M3) ∧ r = (some yv, M3)) ∨ (tb = false ∧ r = (none, M2))) := fun r hr => by
        unfold lcB at hr
        obtain ⟨ρ1, a1, a2⟩ := bind_inv hr
        obtain ⟨⟨tb, M2⟩, a3, a4⟩ := bind_inv a2
        refine ⟨ρ1, tb, M2, a1, a3, ?_⟩
        cases tb with
        | true =>
          obtain ⟨⟨yv, M3⟩, a5, a6⟩ := bind_inv (show (evE _ e ρ1 M2).bind _ = some r from a4)
          cases a6
          exact .inl ⟨rfl, yv, M3, a5, rfl⟩
        | false =>
          cases (show some (none, M2) = some r from a4)
          exact .inr ⟨rfl, rfl⟩
      have rest : ∃ r, lcB (callK T.dfs k) (own.map (·.2)) itg c e ρ x Mi = some r ∧ lcW (lcB (callK T.dfs k) (own.map (·.2)) itg c e ρ) is m (i + 1) (match r.1 with | some y => ys ++ [y] | none => ys) r.2 = some (yf, Mf) := by
        split at hl
        · rename_i y M2 e2; exact ⟨_, e2, hl⟩
        · rename_i M2 e2; exact ⟨_, e2, hl⟩
        · cases hl
      obtain ⟨r, hr, hl⟩ := rest
      obtain ⟨ρ1, tb, M2, a1, a2, a3⟩ := turn r hr
      rw [G.hK]
      refine tg_run (vs := own.map (·.2)) hsl a1 RR rs S1 rr fun ρ2 σ' R2 S2 ew => ⟨by rw [ew, wipe_wipe], ?_⟩
      refine (sts_run G hc a2 CL R2).run S2 fun b H3 ⟨g2, kk3, ex3, eb, ν2, N2⟩ => ?_
      subst eb
      obtain ⟨eg2, N2'⟩ := Nxt.beside Ni.cfg hgi N2
      have g2L : (gdel g2 L) L = none := gdel_same
      rcases a3 with ⟨rfl, yv, M3, a4, rfl⟩ | ⟨rfl, rfl⟩
      · rw [if_pos rfl]
        intro s Hs D cl fp
        rw [eg2] at kk3 ex3
        have C2 : Cfg ν2 M2 (gset (gdel g2 L) L (.lst sys)) := N2'.cfg.beside g2L
        refine he k _ (G.blk scope s Hs D cl fp) ρ1 M2 yv M3 a4 ν2 _ ρ2 C2 (N2.rr R2) σ' H3 (S2.ext kk3 ex3) _ fun vv H4 ⟨sy, g3, kk4, ex4, rr4, ν3, N3, r3⟩ => ?_
        obtain ⟨eg3, N3'⟩ := Nxt.beside N2'.cfg g2L N3
        have g3L : (gdel g3 L) L = none := gdel_same
        rw [eg3] at kk4 ex4 rr4
        obtain ⟨acc, ha, ra⟩ := kk4 L _ gset_same
        have e5 : Ext (gset (gdel g3 L) L (.lst sys)) H4 (gset (gset (gdel g3 L) L (.lst sys)) L (.lst (sys ++ [sy]))) (upd H4 L (.lst (acc ++ [vv]))) := Ext.mut gset_same
        have k5 : GOk W (upd H4 L (.lst (acc ++ [vv]))) (gset (gset (gdel g3 L) L (.lst sys)) L (.lst (sys ++ [sy]))) := kk4.mut (m' := .lst (sys ++ [sy])) gset_same ⟨_, upd_same, (ra.append (show RepSs W H4 _ [sy] [vv] from ⟨vv, [], rfl, rr4, rfl⟩)).ext e5⟩
        rw [gset_gset] at e5 k5
        refine ⟨acc, ha, ?_, ys ++ [yv], M3, ν3, gdel g3 L, sys ++ [sy], hl, ?_, by omega, g3L, Ni.trans (N2'.trans N3'), papp (N3.rl (N2.rl ry)) (.cons r3 .nil), k5, ((((ex.trans ex2).trans ex3).trans ex4).trans e5)⟩
        · rw [← ra.length, ← plen ry, sizeLine_eq]; omega
        · rw [List.length_append]; show ys.length + 1 ≤ i + 1; omega
      · rw [if_neg (by decide)]
        rw [eg2] at kk3 ex3
        exact ⟨ys, _, ν2, gdel g2 L, sys, hl, by omega, by omega, g2L, Ni.trans N2', N2.rl ry, kk3, ((ex.trans ex2).trans ex3)⟩
theorem se_lc {ob : Bool} (hb : blkC C.N C.sc scope own = true) (hvs : vs = own.map (·.2)) (hsl : (slots itg).all (fun i => vs.contains i) = true) (hst : stB iter = true) (hi : SI T A W C tg iter it) (hg : SG (C.blk scope) tg itg) (hc : STs T A W (C.blk scope) ifs c) (he : SE T A W (C.blk scope) elt e) : SE T A W C (.ListComp elt [⟨tg, iter, ifs, 0⟩] scope pos) (.lc ob vs itg it c e) := fun k X G ρ M v M' h ν g ρR Cf R => by
  obtain ⟨ok, hpg, wi, hw, run⟩ := lc_run hb hvs hsl hi hg hc he G h Cf R
  intro σ H S Q' q'
  exact ts_of (pe_lc G.calm G.nd hw ok hpg pts_s pe_el (fold_eq hst)) (run σ H S Q' q')
end
end EV

set_option autoImplicit false
/-! statements -/
namespace EV
open PySem PySem.Spec PyProof.Rows L2 DL
def envS (sc : Scope) : Env := { scope := sc, locals := 0, globals := 0, cells := [] }
theorem sw_env {v : Expr} {t : Option Expr} {l : Nat} {env : Env} : swapsWith v t l env = swapsWith v t l (envS env.scope) := rfl
theorem st_env {ts : List Expr} {v : Expr} {env : Env} : swappedStores ts v env = swappedStores ts v (envS env.scope) := rfl
def PF (ν : List Addr) (M : MS) (g : G) (f : Fl) (ρ' : Rho) (M' : MS) : P4 :=
  { nx := fun ρ2 g2 => f = .nx ∧ PR ν M g ρ' M' ρ2 g2
    rt := fun s g2 => ∃ v, f = .rt v ∧ PV ν M g v M' s g2
    bk := fun ρ2 g2 => f = .bk ∧ PR ν M g ρ' M' ρ2 g2
    ct := fun ρ2 g2 => f = .ct ∧ PR ν M g ρ' M' ρ2 g2 }
structure LeP (P P' : P4) : Prop where
  nx : ∀ ρ g, P.nx ρ g → P'.nx ρ g
  rt : ∀ v g, P.rt v g → P'.rt v g
  bk : ∀ ρ g, P.bk ρ g → P'.bk ρ g
  ct : ∀ ρ g, P.ct ρ g → P'.ct ρ g
section
variable {W : Wd} {g : G} {H : Hp} {P P' : P4} {D : Ends} {X : Cx} {st : Stmt} {sts : List Stmt} {ρ : Rho}
theorem EndsOk.le (k : EndsOk W g H P' D) (h : LeP P P') : EndsOk W g H P D :=
  ⟨fun σ' H' ⟨ρ', g', a, b, c⟩ => k.nx _ _ ⟨ρ', g', a, b, h.nx _ _ c⟩, fun v H' ⟨r, g', a, b, c, d⟩ => k.rt _ _ ⟨r, g', a, b, c, h.rt _ _ d⟩, fun σ' H' ⟨ρ', g', a, b, c⟩ => k.bk _ _ ⟨ρ', g', a, b, h.bk _ _ c⟩, fun σ' H' ⟨ρ', g', a, b, c⟩ => k.ct _ _ ⟨ρ', g', a, b, h.ct _ _ c⟩⟩
theorem ws_le (h : WS X W sts ρ g P) (l : LeP P P') : WS X W sts ρ g P' := fun σ H S D k => h σ H S D (EndsOk.le k l)
theorem w1_le (h : W1 X W st ρ g P) (l : LeP P P') : W1 X W st ρ g P' := fun σ H S D k => h σ H S D (EndsOk.le k l)
end
section
variable {ν ν1 : List Addr} {M M1 M' : MS} {g g1 : G} {f : Fl} {ρ' : Rho}
theorem PF.back (N : Nxt ν M g ν1 M1 g1) : LeP (PF ν1 M1 g1 f ρ' M') (PF ν M g f ρ' M') :=
  ⟨fun _ _ h => ⟨h.1, h.2.back N⟩, fun _ _ ⟨v, h1, h2⟩ => ⟨v, h1, h2.back N⟩, fun _ _ h => ⟨h.1, h.2.back N⟩, fun _ _ h => ⟨h.1, h.2.back N⟩⟩
end
section
variable (T : Tab) (A : Adr) (W : Wd) (C : CC)
def S1 (st : Stmt) (r : IS) : Prop := ∀ k X, Good T A W C k X → ∀ ρ M f ρ' M', evS (callK T.dfs k) r ρ M = some (f, ρ', M') → ∀ ν g ρR, Cfg ν M g → RelR ν ρ ρR → W1 X W st ρR g (PF ν M g f ρ' M')
def SB (sts : List Stmt) (r : IBs) : Prop := ∀ k X, Good T A W C k X → ∀ ρ M f ρ' M', evB (callK T.dfs k) r ρ M = some (f, ρ', M') → ∀ ν g ρR, Cfg ν M g → RelR ν ρ ρR → WS X W sts ρR g (PF ν M g f ρ' M')
end
section
variable {T : Tab} {A : Adr} {W : Wd} {C : CC} {pos pos' p : Pos} {a b e o : Expr} {ra rb re ro : IE} {st : Stmt} {sts s2 : List Stmt} {s : IS} {bs b2 : IBs} {t : IT} {x : Str} {i j : Nat}
theorem sb_nil : SB T A W C [] .nil := fun k X G ρ M f ρ' M' he ν g ρR Cf R => by
  unfold evB at he; cases he
  exact ws_nil ⟨rfl, ν, Nxt.refl Cf, R⟩
theorem sb_cons (h1 : S1 T A W C st s) (h2 : SB T A W C sts bs) : SB T A W C (st :: sts) (.cons s bs) := fun k X G ρ M f ρ' M' he ν g ρR Cf R => by
  unfold evB at he
  obtain ⟨⟨f1, ρ1, M1⟩, e1, e2⟩ := bind_inv he
  refine ws_cons (w1_le (h1 k X G ρ M f1 ρ1 M1 e1 ν g ρR Cf R) ⟨fun ρ2 g2 ⟨ef, ν2, N2, R2⟩ => ?_, fun v g2 ⟨v', ef, p⟩ => ?_, fun ρ2 g2 ⟨ef, p⟩ => ?_, fun ρ2 g2 ⟨ef, p⟩ => ?_⟩)
  · subst ef
    exact ws_le (h2 k X G ρ1 M1 f ρ' M' e2 ν2 g2 ρ2 N2.cfg R2) (PF.back N2)
  · subst ef; cases e2; exact ⟨v', rfl, p⟩
  · subst ef; cases e2; exact ⟨rfl, p⟩
  · subst ef; cases e2; exact ⟨rfl, p⟩
theorem s1_set {pt : Pos} (h : tgB C i x = true) (hs : swapsWith e (some (.Name x pt)) pos.line (envS C.sc) = pure false) (he : SE T A W C e re) : S1 T A W C (.Assign [.Name x pt] e pos) (.set i re) := fun k X G ρ M f ρ' M' h0 ν g ρR Cf R => by
  unfold evS at h0
  obtain ⟨⟨v, M1⟩, e1, e2⟩ := bind_inv h0
  cases e2
  obtain ⟨t1, t2, t3⟩ := tgB_ok G h
  refine w1_set i G.nd ((he k X G ρ M v _ e1 ν g ρR Cf R).imp fun s g' ⟨ν1, N1, r1⟩ => ?_) t1 t2 (by rw [sw_env, G.sc]; exact hs) t3
  exact ⟨rfl, ν1, N1, pset (show RelP ν1 (some v) (some s) from r1) i (N1.rr R)⟩
/-- name = [..], the name a local, on one line -/
theorem s1_setLc {pt : Pos} {tg iter elt : Expr} {ifs : List Expr} {scope : Scope} {own : List (Str × Nat)} {vs : List Nat} {itg : ITg} {it : II} {c : IT} {ie : IE} {ob : Bool} (hN : C.N[i]? = some x) (hL : C.sc.names.lookup x = some .local) (hs : swapsWith (.ListComp elt [⟨tg, iter, ifs, 0⟩] scope p) (some (.Name x pt)) pos.line (envS C.sc) = pure true)
    (hb : blkC C.N C.sc scope own = true) (hvs : vs = own.map (·.2)) (hsl : (slots itg).all (fun i => vs.contains i) = true) (hst : stB iter = true) (hi : SI T A W C tg iter it) (hg : SG (C.blk scope) tg itg) (hc : STs T A W (C.blk scope) ifs c) (he : SE T A W (C.blk scope) elt ie) : S1 T A W C (.Assign [.Name x pt] (.ListComp elt [⟨tg, iter, ifs, 0⟩] scope p) pos) (.set i (.lc ob vs itg it c ie)) := fun k X G ρ M f ρ' M' h0 ν g ρR Cf R => by
  unfold evS at h0
  obtain ⟨⟨v, M1⟩, e1, e2⟩ := bind_inv h0
  cases e2
  obtain ⟨ok, hpg, wi, hw, run⟩ := lc_run hb hvs hsl hi hg hc he G e1 Cf R
  intro σ H S D kk
  refine t1_of (ps_setLc (i := i) G.calm G.nd (by rw [G.N]; exact hN) (by rw [G.sc]; exact hL) (by rw [sw_env, G.sc]; exact hs) hw ok hpg pts_s pe_el (fold_eq hst)) ?_
  refine run σ H S _ fun v' H' ⟨r, g', k', e', rr, ν1, N1, r1⟩ => kk.nx _ _ ⟨_, g', (S.ext k' e').set i rr, e', rfl, ν1, N1, pset (show RelP ν1 (some v) (some r) from r1) i (N1.rr R)⟩
theorem setAll_rel {ν : List Addr} : ∀ {is : List Nat} {us svs : List SV} {ρ ρ' ρR : Rho}, setAll is us ρ = some ρ' → RelR ν ρ ρR → RelL ν us svs → us.length = is.length
  | [], [], _, _, _, _, _, _, _ => rfl
  | [], _ :: _, _, _, _, _, h, _, _ => by unfold setAll at h; cases h
  | _ :: _, [], _, _, _, _, h, _, _ => by unfold setAll at h; cases h
  | i :: is, u :: us, _, ρ, ρ', ρR, h, R, .cons r rs => by
    unfold setAll at h
    exact congrArg (· + 1) (setAll_rel h (pset (show RelP ν (some u) (some _) from r) i R) rs)
theorem s1_unp {es : List Expr} {is : List Nat} {kt : Nat} {pt : Pos} (hg : SGs C es is) (hs : swapsWith e (some (.Tuple es kt pt)) pos.line (envS C.sc) = pure false) (hw : swappedStores [.Tuple es kt pt] e (envS C.sc) = pure none) (he : SE T A W C e re) : S1 T A W C (.Assign [.Tuple es kt pt] e pos) (.unp is re) := fun k X G ρ M f ρ' M' h0 ν g ρR Cf R => by
  unfold evS at h0
  obtain ⟨⟨v, M1⟩, e1, e2⟩ := bind_inv h0
  obtain ⟨l, e3, e4⟩ := bind_inv e2
  obtain ⟨ρ1, e5, e6⟩ := bind_inv e4
  cases e6
  obtain ⟨g1, g2, g3⟩ := hg T A W k X G
  intro σ H S D kk
  have hs' : swapsWithSole [.Tuple es kt pt] e pos.line X.env = pure false := by
    show swapsWith e (some (.Tuple es kt pt)) pos.line X.env = _
    rw [sw_env, G.sc]; exact hs
  have hw' : swappedStores [.Tuple es kt pt] e X.env = pure none := by rw [st_env, G.sc]; exact hw
  have low : (∃ ds, v = .d (.tup ds)) ∨ lstOf M' v = some l := by
    cases v with
    | ob i => exact .inr e3
    | d d => cases d <;> first | exact .inl ⟨_, rfl⟩ | exact .inr e3
  rcases low with ⟨ds, rfl⟩ | hl
  · refine t1_of (ps_asg pe_s (pg_tup G.calm g1 g2 g3) hs' hw' rfl) ?_
    refine he k X G ρ M _ _ e1 ν g ρR Cf R σ H S _ fun vv H1 ⟨sv, gg, k1, ex1, rr, ν1, N1, r1⟩ => ?_
    cases relS_d r1
    obtain ⟨a, xs, rfl, h1, h2⟩ := rr
    cases e3
    have hl := setAll_rel e5 (N1.rr R) (relL_dd ds)
    rw [G.hK]
    refine ⟨a, xs, rfl, h1.sq, by rw [← h2.length, ← hl, List.length_map], ?_⟩
    exact tgs_run (vs := is) (fun i hi => hi) e5 (N1.rr R) (relL_dd ds) (S.ext k1 ex1) (reps_to h2) fun ρ2 σ' R2 S2 _ => kk.nx _ _ ⟨ρ2, gg, S2, ex1, rfl, ν1, N1, R2⟩
  · refine t1_of (ps_asg pe_s (pg_lst G.calm g1 g2 g3) hs' hw' rfl) ?_
    refine he k X G ρ M _ _ e1 ν g ρR Cf R σ H S _ fun vv H1 ⟨sv, gg, k1, ex1, rr, ν1, N1, r1⟩ => ?_
    obtain ⟨l', h1, h2⟩ := lstOf_rel N1.cfg hl r1
    obtain ⟨a, xs, rfl, h3, h4⟩ := h1.v k1 rr
    rw [G.hK]
    have hll := setAll_rel e5 (N1.rr R) h2
    refine ⟨a, xs, rfl, h3, by rw [← h4.length, ← plen h2, hll], ?_⟩
    exact tgs_run (vs := is) (fun i hi => hi) e5 (N1.rr R) h2 (S.ext k1 ex1) h4 fun ρ2 σ' R2 S2 _ => kk.nx _ _ ⟨ρ2, gg, S2, ex1, rfl, ν1, N1, R2⟩
theorem s1_par {y : Str} {px py pt : Pos} {kt k2 : Nat} {pt2 : Pos} (hi : C.N[i]? = some x) (hj : C.N[j]? = some y) (hij : (i == j) = false) (hx : C.sc.names.lookup x = some .local) (hy : C.sc.names.lookup y = some .local) (hw : swappedStores [.Tuple [.Name x px, .Name y py] kt pt] (.Tuple [a, b] k2 pt2) (envS C.sc) = pure (some [x, y]))
    (hn : nsB a = true) (hn2 : nsB b = true) (ha : SE T A W C a ra) (hb : SE T A W C b rb) : S1 T A W C (.Assign [.Tuple [.Name x px, .Name y py] kt pt] (.Tuple [a, b] k2 pt2) pos) (.par i j ra rb) := fun k X G ρ M f ρ' M' h0 ν g ρR Cf R => by
  unfold evS at h0
  obtain ⟨⟨u, M1⟩, e1, e2⟩ := bind_inv h0
  obtain ⟨⟨v, M2⟩, e3, e4⟩ := bind_inv e2
  cases e4
  have hw' : swappedStores [.Tuple [.Name x px, .Name y py] kt pt] (.Tuple [a, b] k2 pt2) X.env = pure (some [x, y]) := by rw [st_env, G.sc]; exact hw
  refine w1_par i j G.calm G.nd (wa_cons ((ha k X G ρ M u M1 e1 ν g ρR Cf R).imp fun su g1 ⟨ν1, N1, r1⟩ => wa_one ((hb k X G ρ M1 v _ e3 ν1 g1 ρR N1.cfg (N1.rr R)).imp fun sv g2 ⟨ν2, N2, r2⟩ => ?_) (star_ns hn2)) (star_ns hn)) (by rw [G.N]; exact hi) (by rw [G.N]; exact hj) (by simpa using hij) (by rw [G.sc]; exact hx) (by rw [G.sc]; exact hy) hw'
  exact ⟨su, sv, rfl, rfl, ν2, N1.trans N2, pset (show RelP ν2 (some v) (some sv) from r2) j (pset (show RelP ν2 (some u) (some su) from N2.rs r1) i (N2.rr (N1.rr R)))⟩
theorem relF_put {ν : List Addr} {v s : SV} {f : Str} (r : RelS ν v s) : ∀ {fs gs : List (Str × SV)}, RelF ν fs gs → RelF ν (putS f v fs) (putS f s gs)
  | _, _, .nil => .cons ⟨rfl, r⟩ .nil
  | (k, x) :: fs, _, .cons (b := q) h t => by
    obtain ⟨k', y⟩ := q
    cases (show k = k' from h.1)
    unfold putS
    dsimp only
    by_cases z : k = f
    · rw [if_pos z, if_pos z]; exact .cons ⟨rfl, r⟩ t
    · rw [if_neg z, if_neg z]; exact .cons h (relF_put r t)
theorem fldPut_inv {M M' : MS} {o v : SV} {f : Str} (h : fldPut M o f v = some M') : ∃ i c fs, o = .ob i ∧ obj M i = some (.ins c fs) ∧ fs.length < 1000 ∧ M' = put M i (.ins c (putS f v fs)) := by
  unfold fldPut at h
  split at h
  · rename_i i
    split at h
    · rename_i c fs e
      obtain ⟨h1, h2⟩ := if_inv h
      cases h2
      exact ⟨i, c, fs, rfl, e, h1, rfl⟩
    · cases h
  · cases h
theorem s1_fld {f : Str} {pt : Pos} {cs : List Nat} (hs : swapsWith e (some (.Attribute o f pt)) pos.line (envS C.sc) = pure false) (hf : fldB T cs f = true) (he : SE T A W C e re) (ho : SE T A W C o ro) : S1 T A W C (.Assign [.Attribute o f pt] e pos) (.fldS cs ro f re) := fun k X G ρ M fl ρ' M' h0 ν g ρR Cf R => by
  unfold evS at h0
  obtain ⟨⟨v, M1⟩, e1, e2⟩ := bind_inv h0
  obtain ⟨⟨ov, M2⟩, e3, e4⟩ := bind_inv e2
  obtain ⟨c, e5, e6⟩ := bind_inv e4
  obtain ⟨hc, e7⟩ := if_inv e6
  obtain ⟨M3, e8, e9⟩ := bind_inv e7
  cases e9
  obtain ⟨i, c', fs, rfl, ei, hl, rfl⟩ := fldPut_inv e8
  have : c' = c := by
    have h : (match obj M2 i with | some (.ins c _) => some c | _ => none) = some c := e5
    rw [ei] at h; cases h; rfl
  subst this
  obtain ⟨k1, k2⟩ := fldB_ok hf hc
  refine w1_fld (c := c') G.hK (G.fct.cls c' k1).c (G.fct.fld c' f k2) ((he k X G ρ M v M1 e1 ν g ρR Cf R).imp fun sv g1 ⟨ν1, N1, r1⟩ => (ho k X G ρ M1 _ M2 e3 ν1 g1 ρR N1.cfg (N1.rr R)).imp fun so g2 ⟨ν2, N2, r2⟩ => ?_) (by rw [sw_env, G.sc]; exact hs)
  obtain ⟨ad, u, rfl, ha, hu, hr⟩ := N2.cfg.obj ei r2
  obtain ⟨gs, rfl, rg⟩ := relO_ins hr
  refine ⟨ad, gs, rfl, hu, by rw [← plen rg]; exact hl, rfl, ν2, (N1.trans N2).trans (Nxt.put N2.cfg ei ha ⟨rfl, relF_put (N2.rs r1) rg⟩), N2.rr (N1.rr R)⟩
theorem s1_sub {ie : Expr} {ri : IE} {sp : Pos} (hs : swapsWith e (some (.Subscript o ie sp)) pos.line (envS C.sc) = pure false) (hsl : slB ie = true) (he : SE T A W C e re) (ho : SE T A W C o ro) (hi : SE T A W C ie ri) : S1 T A W C (.Assign [.Subscript o ie sp] e pos) (.subS ro ri re) := fun k X G ρ M fl ρ' M' h0 ν g ρR Cf R => by
  unfold evS at h0
  obtain ⟨⟨v, M1⟩, e1, e2⟩ := bind_inv h0
  obtain ⟨⟨ov, M2⟩, e3, e4⟩ := bind_inv e2
  obtain ⟨⟨iv, M3⟩, e5, e6⟩ := bind_inv e4
  dsimp only at e6
  split at e6
  · rename_i a z
    split at e6
    · rename_i l el
      obtain ⟨j, e7, e8⟩ := bind_inv e6
      cases e8
      refine w1_sub ((he k X G ρ M v M1 e1 ν g ρR Cf R).imp fun sv g1 ⟨ν1, N1, r1⟩ => (ho k X G ρ M1 _ M2 e3 ν1 g1 ρR N1.cfg (N1.rr R)).imp fun so g2 ⟨ν2, N2, r2⟩ => (hi k X G ρ M2 _ M3 e5 ν2 g2 ρR N2.cfg (N2.rr (N1.rr R))).imp fun si g3 ⟨ν3, N3, r3⟩ => ?_)
        (by show swapsWith e (some (.Subscript o ie sp)) pos.line X.env = _; rw [sw_env, G.sc]; exact hs) (by rfl) rfl (fun v => by cases ie <;> first | rfl | cases hsl)
      cases relS_d r3
      obtain ⟨ad, u, rfl, ha, hu, hr⟩ := N3.cfg.obj el (N3.rs r2)
      obtain ⟨l', rfl, rl⟩ := relO_lst hr
      refine ⟨ad, l', z, j, rfl, rfl, hu, by rw [← plen rl]; exact e7, rfl, ν3, ((N1.trans N2).trans N3).trans (Nxt.put N3.cfg el ha (show RelO ν3 (.lst (l.set j v)) (.lst (l'.set j sv)) from pset (N3.rs (N2.rs r1)) j rl)), N3.rr (N2.rr (N1.rr R))⟩
    · cases e6
  · cases e6
theorem s1_expr (hs : swapsWith e none pos.line (envS C.sc) = pure false) (he : SE T A W C e re) : S1 T A W C (.Expr e pos) (.expr re) := fun k X G ρ M fl ρ' M' h0 ν g ρR Cf R => by
  unfold evS at h0
  obtain ⟨⟨v, M1⟩, e1, e2⟩ := bind_inv h0
  cases e2
  exact w1_expr ((he k X G ρ M v _ e1 ν g ρR Cf R).imp fun s g' ⟨ν1, N1, r1⟩ => ⟨rfl, ν1, N1, N1.rr R⟩) (by rw [sw_env, G.sc]; exact hs)
theorem s1_ret (he : SE T A W C e re) : S1 T A W C (.Return (some e) pos) (.ret re) := fun k X G ρ M fl ρ' M' h0 ν g ρR Cf R => by
  unfold evS at h0
  obtain ⟨⟨v, M1⟩, e1, e2⟩ := bind_inv h0
  cases e2
  exact w1_ret ((he k X G ρ M v _ e1 ν g ρR Cf R).imp fun s g' p => ⟨v, rfl, p⟩)
theorem s1_retN : S1 T A W C (.Return none pos) .retN := fun k X G ρ M fl ρ' M' h0 ν g ρR Cf R => by
  unfold evS at h0; cases h0
  exact w1_retN ⟨_, rfl, PV.d Cf⟩
theorem s1_if (ht : EV.ST T A W C e t) (h1 : SB T A W C sts bs) (h2 : SB T A W C s2 b2) : S1 T A W C (.If e sts s2 pos) (.ife t bs b2) := fun k X G ρ M fl ρ' M' h0 ν g ρR Cf R => by
  unfold evS at h0
  obtain ⟨⟨tb, M1⟩, e1, e2⟩ := bind_inv h0
  refine w1_if ((ht k X G ρ M tb M1 e1 ν g ρR Cf R).imp fun tb' g1 ⟨et, ν1, N1⟩ => ?_)
  subst et
  cases tb' with
  | true => rw [if_pos rfl]; exact ws_le (h1 k X G ρ M1 fl ρ' M' e2 ν1 g1 ρR N1.cfg (N1.rr R)) (PF.back N1)
  | false => rw [if_neg (by decide)]; exact ws_le (h2 k X G ρ M1 fl ρ' M' e2 ν1 g1 ρR N1.cfg (N1.rr R)) (PF.back N1)
theorem s1_brk : S1 T A W C (.Break pos) .brk := fun k X G ρ M fl ρ' M' h0 ν g ρR Cf R => by
  unfold evS at h0; cases h0
  exact w1_break ⟨rfl, ν, Nxt.refl Cf, R⟩
theorem s1_cnt : S1 T A W C (.Continue pos) .cnt := fun k X G ρ M fl ρ' M' h0 ν g ρR Cf R => by
  unfold evS at h0; cases h0
  exact w1_cont ⟨rfl, ν, Nxt.refl Cf, R⟩
theorem s1_pass : S1 T A W C (.Pass pos) .pass := fun k X G ρ M fl ρ' M' h0 ν g ρR Cf R => by
  unfold evS at h0; cases h0
  exact w1_pass ⟨rfl, ν, Nxt.refl Cf, R⟩
theorem s1_dead : S1 T A W C st .dead := fun k X G ρ M fl ρ' M' h0 ν g ρR Cf R => by
  unfold evS at h0; cases h0
theorem s1_try {h0 : ExceptHandler} {hs : List ExceptHandler} (h1 : SB T A W C sts bs) : S1 T A W C (.Try sts (h0 :: hs) [] [] pos) (.tryy bs) := fun k X G ρ M fl ρ' M' he ν g ρR Cf R => by
  unfold evS at he
  intro σ H S D kk
  exact t1_of (ps_try_never (fun e s => by rw [G.xe]; exact fun z => z) pss_s pss_nil) (h1 k X G ρ M fl ρ' M' he ν g ρR Cf R σ H S _ ⟨kk.nx, kk.rt, kk.bk, kk.ct⟩)
theorem whl_inv {t : Rho → MS → Option (Bool × MS)} {b : Rho → MS → RS} {n : Nat} {ρ : Rho} {M : MS} {r : Fl × Rho × MS} (h : whl t b (n + 1) ρ M = some r) : ∃ tb M1, t ρ M = some (tb, M1) ∧ ((tb = false ∧ r = (.nx, ρ, M1)) ∨ (tb = true ∧ ∃ f ρ2 M2, b ρ M1 = some (f, ρ2, M2) ∧ match f with
    | .nx => whl t b n ρ2 M2 = some r
    | .ct => whl t b n ρ2 M2 = some r
    | .bk => r = (.nx, ρ2, M2)
    | .rt v => r = (.rt v, ρ2, M2))) := by
  unfold whl at h
  split at h
  · rename_i M1 e1
    refine ⟨true, M1, e1, .inr ⟨rfl, ?_⟩⟩
    split at h
    · rename_i ρ2 M2 e2; exact ⟨.nx, ρ2, M2, e2, h⟩
    · rename_i ρ2 M2 e2; exact ⟨.ct, ρ2, M2, e2, h⟩
    · rename_i ρ2 M2 e2; cases h; exact ⟨.bk, ρ2, M2, e2, rfl⟩
    · rename_i v ρ2 M2 e2; cases h; exact ⟨.rt v, ρ2, M2, e2, rfl⟩
    · cases h
  · rename_i M1 e1
    cases h
    exact ⟨false, M1, e1, .inl ⟨rfl, rfl⟩⟩
  · cases h
theorem s1_whl (ht : EV.ST T A W C e t) (h1 : SB T A W C sts bs) : S1 T A W C (.While e sts [] pos) (.whl t bs) := fun k X G ρ M fl ρ' M' h0 ν g ρR Cf R => by
  unfold evS at h0
  refine w1_while (by rw [G.xe]; exact .never) (fun m ρ2 g2 => ∃ ρi Mi νi, whl (fun ρ M => evT (callK T.dfs k) t ρ M) (fun ρ M => evB (callK T.dfs k) bs ρ M) m ρi Mi = some (fl, ρ', M') ∧ Nxt ν M g νi Mi g2 ∧ RelR νi ρi ρ2) 1000 ⟨ρ, M, ν, h0, Nxt.refl Cf, R⟩ fun m ρ2 g2 ⟨ρi, Mi, νi, hw, Ni, Ri⟩ => ?_
  cases m with
  | zero => unfold whl at hw; cases hw
  | succ m =>
    obtain ⟨tb, M1, e1, e2⟩ := whl_inv hw
    refine (ht k X G ρi Mi tb M1 e1 νi g2 ρ2 Ni.cfg Ri).imp fun tb' g1 ⟨et, ν1, N1⟩ => ?_
    subst et
    rcases e2 with ⟨rfl, e2⟩ | ⟨rfl, f, ρ3, M3, e3, e4⟩
    · rw [if_neg (by decide)]
      cases e2
      exact ⟨rfl, ν1, Ni.trans N1, N1.rr Ri⟩
    · rw [if_pos rfl]
      refine ws_le (h1 k X G ρi M1 f ρ3 M3 e3 ν1 g1 ρ2 N1.cfg (N1.rr Ri)) ⟨fun ρ4 g4 ⟨ef, ν4, N4, R4⟩ => ?_, fun v g4 ⟨v', ef, p⟩ => ?_, fun ρ4 g4 ⟨ef, p⟩ => ?_, fun ρ4 g4 ⟨ef, ν4, N4, R4⟩ => ?_⟩
      · subst ef; exact ⟨m, Nat.lt_succ_self m, ρ3, M3, ν4, e4, (Ni.trans N1).trans N4, R4⟩
      · subst ef; cases e4; exact ⟨v', rfl, (p.back N1).back Ni⟩
      · subst ef; cases e4; exact ⟨rfl, (p.back N1).back Ni⟩
      · subst ef; exact ⟨m, Nat.lt_succ_self m, ρ3, M3, ν4, e4, (Ni.trans N1).trans N4, R4⟩
end
end EV

set_option autoImplicit false
/-! for; augmented stores -/
namespace EV
open PySem PySem.Spec PyProof.Rows L2 DL
def forW (b : SV → Rho → MS → RS) (is : Its) : Nat → Nat → Rho → MS → RS
  | 0, _, _, _ => none
  | n + 1, i, ρ, M => match itemAt is i M with
    | none => none
    | some none => some (.nx, ρ, M)
    | some (some x) => match b x ρ M with
      | some (.nx, ρ, M) => forW b is n (i + 1) ρ M
      | some (.ct, ρ, M) => forW b is n (i + 1) ρ M
      | some (.bk, ρ, M) => some (.nx, ρ, M)
      | some (.rt v, ρ, M) => some (.rt v, ρ, M)
      | none => none
theorem forL_W {b : SV → Rho → MS → RS} {l : List SV} : ∀ (n i : Nat) (ρ : Rho) (M : MS), n + i = l.length → forL b (l.drop i) ρ M = forW b (.xs l) (n + 1) i ρ M
  | 0, i, ρ, M, h => by
    rw [List.drop_eq_nil_of_le (by omega)]
    unfold forL forW itemAt
    dsimp only
    rw [List.getElem?_eq_none (by omega)]
  | n + 1, i, ρ, M, h => by
    have hi : i < l.length := by omega
    rw [List.drop_eq_getElem_cons hi]
    unfold forL forW itemAt
    dsimp only
    rw [List.getElem?_eq_getElem hi]
    dsimp only
    cases e : b l[i] ρ M with
    | none => rfl
    | some p =>
      obtain ⟨o, ρ1, M1⟩ := p
      cases o with
      | nx => exact forL_W n (i + 1) ρ1 M1 (by omega)
      | ct => exact forL_W n (i + 1) ρ1 M1 (by omega)
      | bk => rfl
      | rt v => rfl
theorem forO_W {b : SV → Rho → MS → RS} {a : Nat} : ∀ (n i : Nat) (ρ : Rho) (M : MS), forO b a n i ρ M = forW b (.ob a) n i ρ M
  | 0, i, ρ, M => rfl
  | n + 1, i, ρ, M => by
    unfold forO forW itemAt
    dsimp only
    cases obj M a with
    | none => rfl
    | some o =>
      cases o with
      | lst l =>
        dsimp only
        cases l[i]? with
        | none => rfl
        | some x =>
          dsimp only
          cases b x ρ M with
          | none => rfl
          | some p =>
            obtain ⟨o, ρ1, M1⟩ := p
            cases o with
            | nx => exact forO_W n (i + 1) ρ1 M1
            | ct => exact forO_W n (i + 1) ρ1 M1
            | bk => rfl
            | rt v => rfl
      | _ => rfl
theorem forW_inv {b : SV → Rho → MS → RS} {is : Its} {n i : Nat} {ρ : Rho} {M : MS} {r : Fl × Rho × MS} (h : forW b is n i ρ M = some r) : ∃ m, n = m + 1 ∧ ((itemAt is i M = some none ∧ r = (.nx, ρ, M)) ∨ ∃ x f ρ2 M2, itemAt is i M = some (some x) ∧ b x ρ M = some (f, ρ2, M2) ∧ match f with
    | .nx => forW b is m (i + 1) ρ2 M2 = some r
    | .ct => forW b is m (i + 1) ρ2 M2 = some r
    | .bk => r = (.nx, ρ2, M2)
    | .rt v => r = (.rt v, ρ2, M2)) := by
  cases n with
  | zero => unfold forW at h; cases h
  | succ m =>
    refine ⟨m, rfl, ?_⟩
    unfold forW at h
    split at h
    · cases h
    · rename_i e; cases h; exact .inl ⟨e, rfl⟩
    · rename_i x e
      split at h
      · rename_i ρ2 M2 e2; exact .inr ⟨x, .nx, ρ2, M2, e, e2, h⟩
      · rename_i ρ2 M2 e2; exact .inr ⟨x, .ct, ρ2, M2, e, e2, h⟩
      · rename_i ρ2 M2 e2; cases h; exact .inr ⟨x, .bk, ρ2, M2, e, e2, rfl⟩
      · rename_i v ρ2 M2 e2; cases h; exact .inr ⟨x, .rt v, ρ2, M2, e, e2, rfl⟩
      · cases h
section
variable {T : Tab} {A : Adr} {W : Wd} {C : CC} {pos pos' p : Pos} {a b e o tg iter : Expr} {ra rb re ro : IE} {sts : List Stmt} {bs : IBs} {x : Str} {i j : Nat} {itg : ITg} {it : II}
theorem s1_for (hst : stB iter = true) (hi : SI T A W C tg iter it) (hg : SG C tg itg) (hb : SB T A W C sts bs) : S1 T A W C (.For tg iter sts [] pos) (.forr itg it bs) := fun k X G ρ M fl ρ' M' h0 ν g ρR Cf R => by
  unfold evS at h0
  obtain ⟨⟨is, M1⟩, h1, h2⟩ := bind_inv h0
  let bt : SV → Rho → MS → RS := fun x ρ M => (bindT itg x ρ).bind fun ρ => evB (callK T.dfs k) bs ρ M
  have hw : ∃ n, forW bt is n 0 ρ M1 = some (fl, ρ', M') := by
    cases is with
    | xs l => exact ⟨l.length + 1, by rw [← forL_W (l := l) l.length 0 ρ M1 (by omega), List.drop_zero]; exact h2⟩
    | ob a => exact ⟨1000, by rw [← forO_W]; exact h2⟩
  obtain ⟨n0, hw⟩ := hw
  clear h2
  obtain ⟨wi, pi, hr⟩ := hi k X G ρ M is M1 h1 ν g ρR Cf R
  intro σ H S D kk
  refine t1_of (ps_for (by rw [G.xe]; exact .never) G.calm pi (hg T A W k X G) pss_s (fold_eq hst)) ?_
  refine hr σ H S _ fun J H1 g1 ν1 N1 k1 e1 io => ?_
  let Pv : Nat → Nat → L2.St → Hp → Prop := fun i m σ' H' => ∃ ρi Mi νi gi ρRi, forW bt is m i ρi Mi = some (fl, ρ', M') ∧ Nxt ν1 M1 g1 νi Mi gi ∧ RelR νi ρi ρRi ∧ Sim W ρRi gi σ' H' ∧ Ext g1 H1 gi H'
  refine ⟨Pv, ⟨n0, ρ, M1, ν1, g1, ρR, hw, Nxt.refl N1.cfg, N1.rr R, S.ext k1 e1, Ext.refl _ _⟩, ?_⟩
  rintro i m σ' H' ⟨ρi, Mi, νi, gi, ρRi, hl, Ni, Ri, Si, ex⟩
  obtain ⟨t, et⟩ := Ni.ext
  obtain ⟨it1, it2⟩ := io νi Mi _ H' ⟨t, et⟩ Ni.cfg Si.ok ex i
  obtain ⟨m, em, h5⟩ := forW_inv hl
  clear hl
  subst em
  rcases h5 with ⟨ei, e2⟩ | ⟨xv, f, ρ2, M2, ei, eb, e3⟩
  · cases e2
    exact .inl ⟨it2 ei, kk.nx _ _ ⟨ρRi, gi, Si, e1.trans ex, rfl, νi, N1.trans Ni, Ri⟩⟩
  · obtain ⟨j1, j2⟩ := it1 xv ei
    refine .inr ⟨j1, Pv (i + 1) m, fun σ2 H2 p => ⟨m, Nat.lt_succ_self m, p⟩, fun y H2 yd => ?_⟩
    obtain ⟨sv, rs, k2, ex2, rr⟩ := j2 y H2 yd
    obtain ⟨ρ1, b1, b2⟩ := bind_inv eb
    rw [G.hK]
    refine tg_run (vs := slots itg) (fun i hi => hi) b1 Ri rs (Si.ext k2 ex2) rr fun ρ3 σ3 R3 S3 _ => ?_
    refine hb k X G ρ1 Mi f ρ2 M2 b2 νi gi ρ3 Ni.cfg R3 σ3 H2 S3 _ ⟨fun σ4 H4 ⟨ρ4, g4, S4, e4, ef, ν4, N4, R4⟩ => ?_, fun v H4 ⟨s4, g4, k4, e4, r4, v', ef, ν4, N4, R4⟩ => ?_, fun σ4 H4 ⟨ρ4, g4, S4, e4, ef, ν4, N4, R4⟩ => ?_, fun σ4 H4 ⟨ρ4, g4, S4, e4, ef, ν4, N4, R4⟩ => ?_⟩
    · subst ef
      exact ⟨ρ2, M2, ν4, g4, ρ4, e3, Ni.trans N4, R4, S4, (ex.trans ex2).trans e4⟩
    · subst ef; cases e3
      exact kk.rt _ _ ⟨s4, g4, k4, ((e1.trans ex).trans ex2).trans e4, r4, v', rfl, ν4, N1.trans (Ni.trans N4), R4⟩
    · subst ef; cases e3
      exact kk.nx _ _ ⟨ρ4, g4, S4, ((e1.trans ex).trans ex2).trans e4, rfl, ν4, N1.trans (Ni.trans N4), R4⟩
    · subst ef
      exact ⟨ρ2, M2, ν4, g4, ρ4, e3, Ni.trans N4, R4, S4, (ex.trans ex2).trans e4⟩
/-- what an augmented store makes of two ints -/
def augF : BOp → Option (Int → Int → Int)
  | .add => some fun i j => i + j
  | .sub => some fun i j => i - j
  | _ => none
theorem aug_op {op : BOp} {F : Int → Int → Int} {i j : Int} {M M' : MS} {v : SV} (h : augF op = some F) (he : evBin op M (.d (.int i)) (.d (.int j)) = some (v, M')) : v = .d (.int (F i j)) ∧ M' = M := by
  cases op <;> cases h
  · exact ret_inv he
  · exact ret_inv he
theorem aug_pip {X : Cx} {op : BOp} {F : Int → Int → Int} (h : augF op = some F) : PIp X (opOf op) (ipI F) := by
  cases op <;> cases h
  · exact ip_add
  · exact ip_sub
theorem s1_aug {op : BOp} {F : Int → Int → Int} {pt : Pos} (hF : augF op = some F) (h : tgB C i x = true) (he : SE T A W C e re) : S1 T A W C (.AugAssign (.Name x pt) (opOf op) e pos) (.aug i op re) := fun k X G ρ M fl ρ' M' h0 ν g ρR Cf R => by
  unfold evS at h0
  split at h0
  · rename_i v hv
    obtain ⟨⟨y, M1⟩, e1, e2⟩ := bind_inv h0
    dsimp only at e2
    split at e2
    · rename_i a b
      obtain ⟨⟨r, M2⟩, e3, e4⟩ := bind_inv e2
      cases e4
      obtain ⟨rfl, rfl⟩ := aug_op hF e3
      obtain ⟨t1, t2, t3⟩ := tgB_ok G h
      intro σ H S D kk
      refine t1_of (ps_aug (i := i) G.nd t1 t2 pe_s (aug_pip hF) t3) ?_
      obtain ⟨s, hs, rs⟩ := relP_some R hv
      cases relS_d rs
      obtain ⟨vx, h1, h2⟩ := S.get i _ hs
      cases (show vx = .int a from h2)
      refine ⟨_, h1, ?_⟩
      refine he k X G ρ M _ _ e1 ν g ρR Cf R σ H S _ fun vv H1 ⟨sv, g1, k1, ex1, rr, ν1, N1, r1⟩ => ?_
      cases relS_d r1
      cases (show vv = .int b from rr)
      refine ⟨a, b, rfl, rfl, kk.nx _ _ ⟨_, g1, (S.ext k1 ex1).set (sv := .d (.int (F a b))) i rfl, ex1, rfl, ν1, N1, pset (show RelP ν1 (some (.d (.int (F a b)))) (some (.d (.int (F a b)))) from rfl) i (N1.rr R)⟩⟩
    · cases e2
  · cases h0
end
end EV

set_option autoImplicit false
/-! enumerate over lists and tuples, from any count -/
namespace EV
open PySem PySem.Spec PyProof.Rows L2 DL
def SqX (K : PySem.W.Frag) (tup : Bool) (H : Hp) (a : Addr) (xs : List V) : Prop := match tup with
  | true => SqT K H a xs
  | false => SqL K H a xs
def IterX (tup : Bool) (h : Heap) (it a : Addr) (i : Nat) : Prop := match tup with
  | true => h.IsTupleIter it a i
  | false => h.IsListIter it a i
def IsX (tup : Bool) (h : Heap) (a : Addr) (its : Array Value) : Prop := match tup with
  | true => h.IsTuple a its
  | false => h.IsList a its
def Ity (K : PySem.W.Frag) (tup : Bool) (c : Int) (a : Addr) : It :=
  ⟨fun i H => ∃ (xs : List V) (x : V), SqX K tup H a xs ∧ xs[i]? = some x, fun i H v H' => ∃ T x, v = .ref T ∧ H T = none ∧ H' = upd H T (.tup [.int (c + (i : Nat)), x]) ∧ ∀ xs, SqX K tup H a xs → xs[i]? = some x, fun i H => ∃ xs : List V, SqX K tup H a xs ∧ xs.length ≤ i⟩
section
variable {P : Program} {w : World} {A : Around} {tup : Bool} {h : Heap} {it a e : Addr} {i : Nat} {its : Array Value}
theorem drawsX (hh : A.handled = none) (hne : a ≠ it) : Draws P w A it [it, a] its.size (fun i v => its[i]? = some v) (fun i h => IterX tup h it a i ∧ IsX tup h a its) := by
  cases tup with
  | true => exact Draws.tuple hh it a hne its
  | false => exact Draws.list hh it a hne its
theorem iterX_get (st : IterX tup h it a i) : ∃ o, h.get? it = some o ∧ o.cls ≠ .type "list" ∧ o.cls ≠ .type "tuple" ∧ o.cls ≠ .type "enumerate" ∧ ∀ v, o.data ≠ .cell v := by
  cases tup with
  | true =>
    obtain ⟨o, ho, hc, hd⟩ := (show h.IsTupleIter it a i from st)
    exact ⟨o, ho, by rw [hc]; decide, by rw [hc]; decide, by rw [hc]; decide, fun v q => by rw [hd] at q; cases q⟩
  | false =>
    obtain ⟨o, ho, hc, hd⟩ := (show h.IsListIter it a i from st)
    exact ⟨o, ho, by rw [hc]; decide, by rw [hc]; decide, by rw [hc]; decide, fun v q => by rw [hd] at q; cases q⟩
theorem iterX_keep {h' : Heap} (st : IterX tup h it a i) (k : ∀ o, h.get? it = some o → h'.get? it = some o) : IterX tup h' it a i := by
  cases tup with
  | true => exact Heap.IsTupleIter.at (h := h) st k
  | false => exact Heap.IsListIter.at (h := h) st k
theorem isX_get (st : IsX tup h a its) : ∃ o, h.get? a = some o ∧ (o.cls = .type "list" ∨ o.cls = .type "tuple") := by
  cases tup with
  | true => obtain ⟨o, ho, hc, _⟩ := (show h.IsTuple a its from st); exact ⟨o, ho, .inr hc⟩
  | false => obtain ⟨o, ho, hc, _⟩ := (show h.IsList a its from st); exact ⟨o, ho, .inl hc⟩
theorem isX_it (st : IterX tup h it a i) (p : IsX tup h a its) : a ≠ it := fun z => by
  subst z
  obtain ⟨o, h1, h2, h3, _⟩ := iterX_get st
  obtain ⟨u, h4, h5⟩ := isX_get p
  rw [h1] at h4; cases h4
  rcases h5 with h5 | h5
  · exact h2 h5
  · exact h3 h5
theorem isX_en {c : Int} {old : Value} (he : IsEnum h e it c old) (p : IsX tup h a its) : e ≠ a := fun z => by
  subst z
  obtain ⟨u, h4, h5⟩ := isX_get p
  have he : h.get? e = some _ := he
  rw [he] at h4; cases h4
  rcases h5 with h5 | h5
  · exact absurd (show Value.type "enumerate" = .type "list" from h5) (by decide)
  · exact absurd (show Value.type "enumerate" = .type "tuple" from h5) (by decide)
end
section
variable {X : Cx} {pins : List (Addr × Obj)} {σ : L2.St} {H : Hp} {s : Shared} {tup : Bool} {a : Addr} {xs ys : List V}
theorem sqX_is (I : Inv X pins σ H s) (h : SqX X.K tup H a xs) : ∃ its : List Value, Vals xs its ∧ IsX tup s.heap a its.toArray := by
  cases tup with
  | true => obtain ⟨its, rv, p, hz⟩ := I.tuple h; exact ⟨its, rv, p⟩
  | false => obtain ⟨its, rv, p, hz⟩ := I.list h; exact ⟨its, rv, p.isList⟩
theorem sqX_inj (I : Inv X pins σ H s) (h : SqX X.K tup H a xs) (k : SqX X.K tup H a ys) : ys = xs := by
  cases tup with
  | true => exact I.tuple_inj k h
  | false => exact I.list_inj k h
end
theorem turn_en {P : Program} {w : World} {K : PySem.W.Frag} {elts : List Expr} {kk : Nat} {tpos : Pos} (tup : Bool) (c : Int) (a e it : Addr) :
    Turn P w K (.Tuple elts kk tpos) (Ity K tup c a) [e, it] e (fun i h => (∃ old, IsEnum h e it (c + ((i : Nat) : Int)) old) ∧ IterX tup h it a i ∧ e ≠ it) where
  mem := by simp
  obj := fun i h st b hb => by
    obtain ⟨⟨old, he⟩, hit, _⟩ := st
    obtain ⟨o, ho, _, _, _, hd⟩ := iterX_get hit
    have e' : b = e ∨ b = it := by simpa using hb
    rcases e' with z | z
    · rw [z]; exact ⟨_, he, fun v q => nomatch q⟩
    · rw [z]; exact ⟨o, ho, hd⟩
  keep := fun i h h' st k => let ⟨⟨old, he⟩, hi, hne⟩ := st; ⟨⟨old, k e (by simp) _ he⟩, iterX_keep hi fun o q => k it (by simp) o q, hne⟩
  item := by
    intro X hP hw hK hc i pins s σ H E I hf st hg
    subst hP hw hK
    obtain ⟨⟨old, he⟩, hit, hne⟩ := st
    obtain ⟨xs, x, hq, hx⟩ := hg
    obtain ⟨its, rv, p⟩ := sqX_is I hq
    obtain ⟨u, hu, ru⟩ := rv.get hx
    have hel : e < s.heap.objs.size := Heap.lt_size he
    have hil : it < s.heap.objs.size := by obtain ⟨_, q, _⟩ := iterX_get hit; exact Heap.lt_size q
    have hlt : i < its.toArray.size := by
      have := (List.getElem?_eq_some_iff.mp hu).1
      simpa using this
    refine wpAny_pyNext_enum_itemC (drawsX (A := X.A.in1) (its := its.toArray) (tup := tup) (I.ok.hd hc) (isX_it hit p)) he ⟨hit, p⟩ hlt hne ?_ fun y h' tk hy ho hit' hT hsz hk => ?_
    · intro hm
      rcases List.mem_cons.mp hm with z | z
      · exact hne z
      · exact isX_en he p (List.mem_singleton.mp z)
    have hy : its.toArray[i]? = some y := hy
    have eu : y = u := by
      have : its[i]? = some y := by simpa using hy
      rw [hu] at this; cases this; rfl
    subst eu
    refine ⟨_, rfl, wpAny_letOwnedTupleGo_enum (s := { s with heap := h', toks := tk + 1 }) ho fun h'' he' sb => ?_⟩
    have hT2 : h''.get? s.heap.objs.size = some { cls := .type "tuple", data := .seq #[.int (c + (i : Nat)) tk, y] } := (sb.2 _ (Nat.ne_of_gt hel)).trans hT
    have new : ObjOk X.prog X.w (upd H s.heap.objs.size (.tup [.int (c + (i : Nat)), x])) h'' s.heap.objs.size (.tup [.int (c + (i : Nat)), x]) :=
      ⟨by show 2 ≤ sizeLine; decide, [.int (c + (i : Nat)) tk, y], .cons ⟨_, rfl⟩ (.cons ru .nil), ⟨_, hT2, rfl, _, rfl⟩⟩
    have I1 : Inv X pins σ (upd H s.heap.objs.size (.tup [.int (c + (i : Nat)), x])) { s with heap := h'', toks := tk + 1 } :=
      I.turnedNew (ch := [e, it]) (fun b ob hb q => (sb.2 b (fun z => hb (by simp [z]))).trans (hk b ob (fun z => hb (by simp [z])) (fun z => hb (by simp [z])) q)) hf (Nat.le_refl _) new
    refine ⟨.ref s.heap.objs.size, _, I1, rfl, ⟨_, x, rfl, I.hok.fresh (Nat.le_refl _), rfl, fun ys hy => by rw [sqX_inj I hq hy]; exact hx⟩, ⟨⟨y, ?_⟩, iterX_keep hit'.1 fun o q => (sb.2 it (Ne.symm hne)).trans q, hne⟩, fun b hb => ?_⟩
    · have e1 : c + ((i + 1 : Nat) : Int) = c + (i : Int) + 1 := by omega
      rw [e1]; exact he'
    · have hb' : b < s.heap.objs.size := by
        have e' : b = e ∨ b = it := by simpa using hb
        rcases e' with z | z
        · rw [z]; exact hel
        · rw [z]; exact hil
      rw [upd_ne (Nat.ne_of_lt hb')]
      exact (hf b hb).1
  done := by
    intro X hP hw hK hc i pins s σ H E I hf st hg
    subst hP hw hK
    obtain ⟨⟨old, he⟩, hit, hne⟩ := st
    obtain ⟨xs, hq, hx⟩ := hg
    obtain ⟨its, rv, p⟩ := sqX_is I hq
    obtain ⟨f0, f1, f2, f3, f4, f5⟩ := hf it (by simp)
    have hl := rv.length
    have fin : ∀ h', Heap.ExtBut it s.heap h' → (none : Option Value) = none ∧ Inv X pins σ H { s with heap := h' } := fun h' eb => ⟨rfl, I.turned (t' := s.toks) (fun b o hb q => eb b o hb q) f0 f1 f3 f4 f5⟩
    have hT : s.TypeIs (.ref e) "enumerate" := ⟨_, he, rfl⟩
    unfold pyNext
    refine wpAny_bind (wpAny_attempt (wpAny_callSpecial?_slot (name := Str.ofString "__next__") hT F.slot_enumerate_next
      (wpAny_call_entry F.slot_enumerate_next hT F.entry_enumerate_next ?_ (F.args_enumerate_next_1 _))))
    show wpAny _ _ (field (.ref e) 2 >>= _) _ _ _
    refine wpAny_bind (wpAny_field he rfl (x := .ref it) rfl ?_)
    have stop : ∀ {Q : Value → Shared → Prop} {E : Value → Shared → Prop}, (∀ h' e, Heap.ExtBut it s.heap h' → (∃ o, h'.get? e = some o ∧ o.cls = .type "StopIteration") → E (.ref e) { s with heap := h' }) → wpAny (model X.prog X.w) X.A.in1 (Builtin.SmallTypes.nextOf (.ref it)) Q E s := fun {Q E} hE => by
      cases tup with
      | true => exact wpAny_nextOf_tuple_end (I.ok.hd hc) hit p (by simp; omega) hE
      | false => exact wpAny_nextOf_list_end (I.ok.hd hc) hit p (by simp; omega) hE
    refine wpAny_bind (stop fun h' x he' hx' => ?_)
    obtain ⟨o, ho, hc⟩ := hx'
    refine wpAny_bind (wpAny_isInstance (T := "StopIteration") (b := true) ⟨o, ho, hc⟩ isSubtype_stop ?_)
    exact wpAny_pure (fin _ he')
  self := fun A i s Q E st h => let ⟨⟨_, he⟩, _⟩ := st; wpAny_pyIter_enum he h
theorem beginsX (tup : Bool) (a : Addr) (its : Array Value) : ∃ o, Begins (.ref a) o (fun h => IsX tup h a its) ∧ ∀ h it, h.get? it = some o → IterX tup h it a 0 := by
  cases tup with
  | true => exact ⟨_, begins_tuple a its, fun h it e => ⟨_, e, rfl, rfl⟩⟩
  | false => exact ⟨_, begins_list a its, fun h it e => ⟨_, e, rfl, rfl⟩⟩
set_option maxHeartbeats 1000000 in
theorem meets_en1 {v : Value} {o : Obj} {H : Heap → Prop} (B : Begins v o H) :
    Meets (Builtin.«enumerate.__new__» ⟨[.type "enumerate", v], []⟩) (fun _ R s => H s.heap ∧
      R (.ok (.ret (.ref (s.heap.push o).objs.size))) { s with heap := (s.heap.push o).push { cls := .type "enumerate", data := .fields #[.none, .bool false, .ref s.heap.objs.size, rawInt 0, .none, .none] } }) :=
  .of_wp fun prog w A R s h => by
    obtain ⟨hp, g, d, tk, os⟩ := s; obtain ⟨h1, h⟩ := h
    have hsub := sub_enumerate
    have q1 : ∀ {A' : Around} {E : Value → Shared → Prop} {Q : Value → Shared → Prop}, Q (.ref hp.objs.size) ⟨hp.push o, g, d, tk, os⟩ → wpAny (model prog w) A' (pyIter v) Q E ⟨hp, g, d, tk, os⟩ :=
      fun q => B.iter prog w _ _ ⟨hp, g, d, tk, os⟩ _ h1 q
    wp_walk using q1
    refine wpAny_stack_any fun st => wpAny_pure ?_
    split
    · rename_i c _ _ _ _ _
      cases (c == Value.type "enumerate")
      · wp_walk using q1
        exact ⟨_, rfl, h⟩
      · wp_walk using q1
        exact ⟨_, rfl, h⟩
    · wp_walk using q1
      exact ⟨_, rfl, h⟩
section
variable {prog : Program} {w : World} {A : Around} {E : Value → Shared → Prop} {s : Shared}
theorem enum_begins1 {v : Value} {o : Obj} {H : Heap → Prop} {Q : Value → Shared → Prop} (B : Begins v o H) (h1 : H s.heap)
    (h : ∀ h', IsEnum h' (s.heap.objs.size + 1) s.heap.objs.size 0 .none → h'.get? s.heap.objs.size = some o → h'.objs.size = s.heap.objs.size + 2 →
      (∀ b o, s.heap.get? b = some o → h'.get? b = some o) → Q (.ref (s.heap.objs.size + 1)) { s with heap := h' }) :
    wpAny (model prog w) A (call (.type "enumerate") [v]) Q E s := by
  refine callType_new F.called_enumerate (by decide) (F.typeCall_enumerate_1 _) (F.newCall_enumerate_1 _) (fun obj => F.args_object_init_2 obj _) F.entry_enumerate_new
    (meets_en1 B) ⟨h1, ?_⟩
  have hz : (s.heap.push o).objs.size = s.heap.objs.size + 1 := Heap.size_push ..
  show _ ∧ _
  rw [hz]
  have he : IsEnum ((s.heap.push o).push { cls := .type "enumerate", data := .fields #[.none, .bool false, .ref s.heap.objs.size, rawInt 0, .none, .none] }) (s.heap.objs.size + 1) s.heap.objs.size 0 .none := by
    have := Heap.get?_push_size (s.heap.push o) (o := { cls := .type "enumerate", data := .fields #[.none, .bool false, .ref s.heap.objs.size, rawInt 0, .none, .none] }) rfl
    rw [hz] at this; exact this
  refine ⟨⟨_, he, rfl⟩, h _ he (Heap.get?_push_of_some _ (Heap.get?_push_size _ B.free)) (by rw [Heap.size_push, hz]) fun b o x => Heap.get?_push_of_some _ (Heap.get?_push_of_some _ x)⟩
end
def iEn (K : PySem.W.Frag) (tup : Bool) (c : Int) (ta : TA) : TI := fun σ H R => ta σ H fun vs H1 => ∃ a xs, vs = [.ref a] ∧ SqX K tup H1 a xs ∧ R (Ity K tup c a) H1
section
variable {X : Cx} {tup : Bool} {c : Int} {pins : List (Addr × Obj)} {σ : L2.St} {H : Hp} {s : Shared} {a : Addr} {elts : List Expr} {kk : Nat} {tpos : Pos} {R : It → Hp → Prop} {E : Value → Shared → Prop}
theorem en_pie {h' : Heap} (I : Inv X pins σ H s) (he : IsEnum h' (s.heap.objs.size + 1) s.heap.objs.size c .none) (hit : IterX tup h' s.heap.objs.size a 0) (hk : ∀ b o, s.heap.get? b = some o → h'.get? b = some o) (q : R (Ity X.K tup c a) H) :
    wpAny (model X.prog X.w) X.A (pyIter (.ref (s.heap.objs.size + 1))) (PIE X pins σ (.Tuple elts kk tpos) R) E { s with heap := h' } := by
  refine wpAny_pyIter_enum he ?_
  have I2 : Inv X pins σ H { s with heap := h' } := I.kept (t' := s.toks) hk
  refine ⟨s.heap.objs.size + 1, [s.heap.objs.size + 1, s.heap.objs.size], _, _, H, rfl, I2, turn_en tup c a (s.heap.objs.size + 1) s.heap.objs.size, ⟨⟨.none, ?_⟩, hit, Nat.succ_ne_self _⟩, fun b hb => ?_, q⟩
  · have e0 : c + ((0 : Nat) : Int) = c := by omega
    rw [e0]; exact he
  · have e' : b = s.heap.objs.size + 1 ∨ b = s.heap.objs.size := by simpa using hb
    have hle : s.heap.objs.size ≤ b := by
      rcases e' with z | z
      · rw [z]; exact Nat.le_add_right _ _
      · rw [z]; exact Nat.le_refl _
    exact I.fpOk hle (I.hok.fresh hle)
theorem pi_en {e : Expr} {ta : TA} {p pos : Pos} (hg : Gl X "enumerate") (hm : X.mg "enumerate" = none) (ha : PA X [e] ta) (hs : starEach [e] X.env = [(false, eval e X.env)]) :
    PI X (.Tuple elts kk tpos) (.Call (.Name "enumerate" p) [e] [] pos) (iEn X.K tup 0 ta) := by
  refine ⟨fun pins s σ H R I h => ?_⟩
  refine Call_ (ld_blt I hg hm boot_enumerate (PyProof.Rows.callWith_type1 (thn (ha.run pos pins s σ H _ I h) fun us s1 ⟨vs, H1, I1, r1, a, xs, ex, hq, q⟩ => ?_) hs rfl))
  subst ex
  cases r1 with
  | cons r rr =>
    cases rr
    cases r
    obtain ⟨its, rv, p'⟩ := sqX_is I1 hq
    obtain ⟨o, B, hit⟩ := beginsX tup a its.toArray
    exact enum_begins1 B p' fun h' he ho hsz hk => en_pie I1 he (hit _ _ ho) hk q
end
section
variable {W : Wd} {ν : List Addr} {g1 : G} {H1 : Hp} {a : Addr} {xs : List V} {l : List D}
theorem it_en {tup : Bool} {c : Int} (h1 : ∀ g H, Ext g1 H1 g H → GOk W H g → ∃ xs, SqX W.K tup H a xs ∧ Reps W H g l xs) : ItOk W ν g1 H1 (Ity W.K tup c a) (.xs ((l.zipIdx).map fun p => SV.d (.tup [.int (c + (p.2 : Int)), p.1]))) := fun ν2 M g H _ C k ex i => by
  obtain ⟨xs, q, r⟩ := h1 g H ex k
  refine ⟨fun v hv => ?_, fun hv => ⟨xs, q, ?_⟩⟩
  · have hv : ((l.zipIdx).map fun p => SV.d (.tup [.int (c + (p.2 : Int)), p.1]))[i]? = some v := Option.some.inj hv
    rw [List.getElem?_map] at hv
    obtain ⟨⟨d, j⟩, h2, h3⟩ := map_inv hv
    rw [List.getElem?_zipIdx] at h2
    obtain ⟨d', h4, h5⟩ := map_inv h2
    cases h5
    obtain ⟨x0, hx0, rx0⟩ := r.get h4
    refine ⟨⟨xs, x0, q, hx0⟩, fun x H' ⟨Tp, y, e1, e2, e3, e4⟩ => ?_⟩
    subst e1 e3 h3
    have ey : y = x0 := by
      have := e4 xs q
      rw [hx0] at this; cases this; rfl
    subst ey
    refine ⟨.d (.tup [.int (c + ((0 + i : Nat) : Int)), d]), rfl, k.new e2, Ext.new e2, ?_⟩
    have e5 : Ext g H g (upd H Tp (.tup [.int (c + (i : Nat)), y])) := Ext.new e2
    refine ⟨Tp, [.int (c + (i : Nat)), y], rfl, .inl ⟨.inl upd_same, k.free e2⟩, .int (c + (i : Nat)), [y], rfl, ?_, y, [], rfl, Rep.ext e5 _ _ rx0, rfl⟩
    show V.int (c + (i : Nat)) = V.int (c + ((0 + i : Nat) : Int))
    rw [Nat.zero_add]
  · have hv : ((l.zipIdx).map fun p => SV.d (.tup [.int (c + (p.2 : Int)), p.1]))[i]? = none := Option.some.inj hv
    rw [← r.length]
    simpa using hv
end
section
variable {T : Tab} {A : Adr} {W : Wd} {C : CC} {e a b : Expr} {ra rb : IE} {p pos tpos : Pos} {elts : List Expr} {kk : Nat}
theorem si_en (hg : globB C "enumerate" = true) (hf : ("enumerate" : Str) ∈ T.free) (hn : nsB a = true) (h : SE T A W C a ra) : SI T A W C (.Tuple elts kk tpos) (.Call (.Name "enumerate" p) [a] [] pos) (.enum 0 ra) := fun k X G ρ M is M' he ν g ρR Cf R => by
  unfold evI at he
  obtain ⟨⟨x, M1⟩, h1, h2⟩ := bind_inv he
  obtain ⟨gl, hd⟩ := G.gl hg
  have hm := G.fct.free _ hf
  dsimp only at h2
  split at h2
  · rename_i d
    obtain ⟨l, h3, h4⟩ := map_inv h2
    cases h4
    cases d <;> first | (cases h3; done) | skip
    · cases h3
      refine ⟨_, pi_en (tup := false) gl hm (pa_cons pe_s pa_nil (star_ns hn)) (star_ns hn), fun σ H S R' q => ?_⟩
      refine h k X G ρ M _ _ h1 ν g ρR Cf R σ H S _ fun vv H1 ⟨sv, g1, k1, e1, rr, ν1, N1, r1⟩ => ?_
      cases relS_d r1
      obtain ⟨ad, xs, rfl, h5, h6⟩ := rr
      rw [G.hK]
      exact ⟨ad, xs, rfl, h5.sq, q _ _ g1 ν1 N1 k1 e1 (it_en (tup := false) fun g H ex kk => ⟨xs, (h5.ext ex).sq, Reps.ext ex _ _ h6⟩)⟩
    · cases h3
      refine ⟨_, pi_en (tup := true) gl hm (pa_cons pe_s pa_nil (star_ns hn)) (star_ns hn), fun σ H S R' q => ?_⟩
      refine h k X G ρ M _ _ h1 ν g ρR Cf R σ H S _ fun vv H1 ⟨sv, g1, k1, e1, rr, ν1, N1, r1⟩ => ?_
      cases relS_d r1
      obtain ⟨ad, xs, rfl, h5, h6⟩ := rr
      rw [G.hK]
      exact ⟨ad, xs, rfl, h5.sq, q _ _ g1 ν1 N1 k1 e1 (it_en (tup := true) fun g H ex kk => ⟨xs, (h5.ext ex).sq, Reps.ext ex _ _ h6⟩)⟩
    · cases h3
      refine ⟨_, pi_en (tup := false) gl hm (pa_cons pe_s pa_nil (star_ns hn)) (star_ns hn), fun σ H S R' q => ?_⟩
      refine h k X G ρ M _ _ h1 ν g ρR Cf R σ H S _ fun vv H1 ⟨sv, g1, k1, e1, rr, ν1, N1, r1⟩ => ?_
      cases relS_d r1
      obtain ⟨ad, xs, rfl, h5, h6⟩ := rr
      rw [G.hK]
      exact ⟨ad, xs, rfl, h5.sq, q _ _ g1 ν1 N1 k1 e1 (it_en (tup := false) fun g H ex kk => ⟨xs, (h5.ext ex).sq, Reps.ext ex _ _ h6⟩)⟩
  · cases h2
end
end EV

set_option autoImplicit false
/-! a set comprehension with two fors: texts -/
namespace EV
open PySem PySem.Spec PyProof.Rows L2 DL
theorem scI_inv {ev : SV → MS → R} {y : SV} {l : List SV} {zs : List Str} {M : MS} {r : List Str × MS} (h : scI ev (y :: l) zs M = some r) : ∃ k M1, ev y M = some (.d (.str k), M1) ∧ zs.length + 1 < 4095 ∧ scI ev l (zs ++ [k]) M1 = some r := by
  unfold scI at h
  split at h
  · rename_i k M1 e
    obtain ⟨h1, h2⟩ := if_inv h
    exact ⟨k, M1, e, h1, h2⟩
  · cases h
theorem scO_inv {inn : SV → MS → R} {ev : SV → SV → MS → R} {x : SV} {rows : List SV} {zs : List Str} {M : MS} {r : List Str × MS} (h : scO inn ev (x :: rows) zs M = some r) : ∃ l M1 zs2 M2, inn x M = some (.d (.lst l), M1) ∧ scI (ev x) (l.map SV.d) zs M1 = some (zs2, M2) ∧ scO inn ev rows zs2 M2 = some r := by
  unfold scO at h
  split at h
  · rename_i l M1 e
    split at h
    · rename_i zs2 M2 e2
      exact ⟨l, M1, zs2, M2, e, e2, h⟩
    · cases h
  · cases h
theorem set_same {α : Type} : ∀ {l : List α} {i : Nat} {x y : α}, (l.set i x).set i y = l.set i y
  | [], _, _, _ => rfl
  | _ :: _, 0, _, _ => rfl
  | a :: l, i + 1, _, _ => congrArg (a :: ·) set_same
section
variable {T : Tab} {A : Adr} {W : Wd} {C : CC} {elt iter iter1 : Expr} {scope : Scope} {own : List (Str × Nat)} {pos p0 p1 : Pos} {vs : List Nat} {j0 j1 : Nat} {y0 y1 : Str} {it it2 e : IE}
theorem se_sc2 (hb : blkC C.N C.sc scope own = true) (hvs : vs = own.map (·.2)) (hj0 : vs.contains j0 = true) (hj1 : vs.contains j1 = true) (hst : stB iter = true) (hst1 : stB iter1 = true) (h0 : tgB (C.blk scope) j0 y0 = true) (h1 : tgB (C.blk scope) j1 y1 = true)
    (hi : SE T A W C iter it) (hi1 : SE T A W (C.blk scope) iter1 it2) (he : SE T A W (C.blk scope) elt e) :
    SE T A W C (.SetComp elt [⟨.Name y0 p0, iter, [], 0⟩, ⟨.Name y1 p1, iter1, [], 0⟩] scope pos) (.sc2 vs j0 it j1 it2 e) := fun k X G ρ M v M' h ν g ρR Cf R => by
  unfold evE at h
  obtain ⟨⟨x, M1⟩, q1, q2⟩ := bind_inv h
  dsimp only at q2
  split at q2
  · rename_i rows
    obtain ⟨⟨zf, Mf⟩, q3, q4⟩ := bind_inv q2
    unfold EV.new at q4
    cases q4
    subst hvs
    have hj0 : j0 ∈ own.map (·.2) := by simpa using hj0
    have hj1 : j1 ∈ own.map (·.2) := by simpa using hj1
    have ok : BlkOk X.N X.env.scope scope own := by rw [G.N, G.sc]; exact blkOk_by hb
    have hg0 : Blk X scope fun Y => PG Y (.Name y0 p0) (gName j0) := fun s H D cl fp => sg_nm h0 T A W k _ (G.blk scope s H D cl fp)
    have hg1 : Blk X scope fun Y => PG Y (.Name y1 p1) (gName j1) := fun s H D cl fp => sg_nm h1 T A W k _ (G.blk scope s H D cl fp)
    intro σ H S Q' q'
    have inner1 : Blk X scope fun Y => PI Y (.Name y1 p1) iter1 (iList X.K (tEl X scope iter1)) := fun s H C cl fp => pi_list (pe_el s H C cl fp)
    refine ts_of (DLS.pe_sc2 (vs1 := [j1]) G.calm G.nd (pi_tup pe_s) ok (fun i hi => by rw [List.mem_singleton.mp hi]; exact hj1) hg0 (pts_s (ifs := [])) inner1 hg1 (pts_s (ifs := [])) pe_el (fold_eq hst) (fun env => fold_eq hst1)) ?_
    refine hi k X G ρ M _ M1 q1 ν g ρR Cf R σ H S _ fun vv H1 ⟨sv, g1, k1, e1, r1, ν1, N1, rs⟩ => ?_
    cases relS_d rs
    obtain ⟨a, xs, rfl, a1, a2⟩ := r1
    refine ⟨a, rfl, ⟨xs, by rw [G.hK]; exact a1.sq⟩, fun L hL => ?_⟩
    have gL : g1 L = none := k1.free hL
    let inn : SV → MS → EV.R := fun r M => evE (callK T.dfs k) it2 ((wipeD ρ (own.map (·.2))).set j0 (some r)) M
    let ev : SV → SV → MS → EV.R := fun r y M => evE (callK T.dfs k) e (((wipeD ρ (own.map (·.2))).set j0 (some r)).set j1 (some y)) M
    let PS : List SV → Hp → Prop := fun rest H' => ∃ zs Mi νi gi ks, scO inn ev rest zs Mi = some (zf, Mf) ∧ gi L = none ∧ Nxt ν1 M1 g1 νi Mi gi ∧ DLS.Once ks zs ∧ GOk W H' (gset gi L (.tset ks)) ∧ Ext g1 H1 (gset gi L (.tset ks)) H'
    refine ⟨fun i m H' => m = xs.length - i ∧ i ≤ xs.length ∧ PS ((rows.map SV.d).drop i) H', ⟨xs.length, by simp, Nat.zero_le _, [], M1, ν1, g1, [], q3, gL, Nxt.refl N1.cfg, DLS.once_nil, ?_, ?_⟩, ?_⟩
    · rw [G.hw]; exact k1.newOb (m := .tset []) hL upd_same
    · rw [G.hw]; exact Ext.newOb hL
    rintro i m H2 ⟨rfl, hi, zs, Mi, νi, gi, ks, hO, hgi, Ni, on, kk, ex⟩
    have q : SqT X.K H2 a xs := by rw [G.hK]; exact (a1.ext ex).sq
    have hlen := a2.length
    by_cases hlt : i < xs.length
    · refine .inr ⟨⟨xs, xs[i], q, by simp [hlt]⟩, PS ((rows.map SV.d).drop (i + 1)), fun H' p => ⟨xs.length - (i + 1), by omega, rfl, hlt, p⟩, fun xv H' y => ?_⟩
      obtain ⟨ee, y⟩ := y
      subst ee
      obtain ⟨row, hrow, rrow⟩ := a2.got (y xs q)
      have hd : (rows.map SV.d).drop i = .d row :: (rows.map SV.d).drop (i + 1) := by
        have hi2 : i < (rows.map SV.d).length := by rw [List.length_map, hlen]; exact hlt
        rw [List.drop_eq_getElem_cons hi2]
        have : (rows.map SV.d)[i]? = some (.d row) := by rw [List.getElem?_map, hrow]; rfl
        rw [List.getElem?_eq_getElem hi2] at this
        rw [Option.some.inj this]
      rw [hd] at hO
      obtain ⟨l, M2, zs2, M3, o1, o2, o3⟩ := scO_inv hO
      have RR : RelR νi ((wipeD ρ (own.map (·.2))).set j0 (some (.d row))) ((wipeD ρR (own.map (·.2))).set j0 (some (.d row))) := pset (show RelP νi (some (.d row)) (some (.d row)) from rfl) j0 (relR_wipe (Ni.rr (N1.rr R)) _)
      have S1 := S.ext k1 e1
      have S2 : Sim W ((wipeD ρR (own.map (·.2))).set j0 (some (.d row))) (gset gi L (.tset ks)) ((L2.wipe σ (own.map (·.2))).set j0 (some xv)) H' := ((S1.ext kk ex).wipe _).set (sv := .d row) j0 (Rep.ext ex row xv rrow)
      have CL : Cfg νi Mi (gset gi L (.tset ks)) := Ni.cfg.beside hgi
      refine ⟨wipe_set hj0, ?_⟩
      refine tts_nil ?_
      rw [if_pos rfl]
      intro s' Hs D cl fp
      refine hi1 k _ (G.blk scope s' Hs D cl fp) _ Mi _ M2 o1 νi _ _ CL RR _ H' S2 _ fun v3 H3 ⟨s3, g3, k3, e3, r3, ν3, N3, rs3⟩ => ?_
      cases relS_d rs3
      obtain ⟨eg3, N3'⟩ := Nxt.beside Ni.cfg hgi N3
      obtain ⟨b, ys, rfl, hb1, hb2⟩ := r3
      refine ⟨b, rfl, ⟨ys, by rw [G.hK]; exact hb1.sq⟩, ?_⟩
      rw [eg3] at k3 e3
      let P1 : List SV → Hp → Prop := fun rest H' => ∃ zs4 M4 ν4 g4 ks4, scI (ev (.d row)) rest zs4 M4 = some (zs2, M3) ∧ g4 L = none ∧ Nxt νi Mi gi ν4 M4 g4 ∧ DLS.Once ks4 zs4 ∧ GOk W H' (gset g4 L (.tset ks4)) ∧ Ext g3 H3 (gset g4 L (.tset ks4)) H'
      have e30 : Ext g3 H3 (gset (gdel g3 L) L (.tset ks)) H3 := by rw [← eg3]; exact Ext.refl _ _
      refine ⟨fun j m H' => m = ys.length - j ∧ j ≤ ys.length ∧ P1 ((l.map SV.d).drop j) H', ⟨ys.length, by simp, Nat.zero_le _, zs, M2, ν3, gdel g3 L, ks, o2, gdel_same, N3', on, k3, e30⟩, ?_⟩
      rintro j m H4 ⟨rfl, hj, zs4, M4, ν4, g4, ks4, hI, hg4, N4, on4, k4, e4⟩
      have q4 : SqL X.K H4 b ys := by rw [G.hK]; exact (hb1.ext e4).sq
      have hlen2 := hb2.length
      by_cases lt4 : j < ys.length
      · refine .inr ⟨⟨ys, ys[j], q4, by simp [lt4]⟩, P1 ((l.map SV.d).drop (j + 1)), fun H5 p => ⟨ys.length - (j + 1), by omega, rfl, lt4, p⟩, fun x5 H5 y5 => ?_⟩
        obtain ⟨e5, y5⟩ := y5
        subst e5
        obtain ⟨d5, hd5, rd5⟩ := hb2.got (y5 ys q4)
        have hdr : (l.map SV.d).drop j = .d d5 :: (l.map SV.d).drop (j + 1) := by
          have hi2 : j < (l.map SV.d).length := by rw [List.length_map, hlen2]; exact lt4
          rw [List.drop_eq_getElem_cons hi2]
          have : (l.map SV.d)[j]? = some (.d d5) := by rw [List.getElem?_map, hd5]; rfl
          rw [List.getElem?_eq_getElem hi2] at this
          rw [Option.some.inj this]
        rw [hdr] at hI
        obtain ⟨kx, M5, i1, i2, i3⟩ := scI_inv hI
        refine ⟨wipe_set (List.mem_singleton.mpr rfl), ?_⟩
        refine tts_nil ?_
        rw [if_pos rfl]
        have C4 : Cfg ν4 M4 (gset g4 L (.tset ks4)) := N4.cfg.beside hg4
        have R5 : RelR ν4 (((wipeD ρ (own.map (·.2))).set j0 (some (.d row))).set j1 (some (.d d5))) ((wipeD ((wipeD ρR (own.map (·.2))).set j0 (some (.d row))) [j1]).set j1 (some (.d d5))) := by
          show RelR _ _ ((((wipeD ρR (own.map (·.2))).set j0 (some (.d row))).set j1 none).set j1 (some (.d d5)))
          rw [set_same]
          exact pset (show RelP ν4 (some (.d d5)) (some (.d d5)) from rfl) j1 (N4.rr RR)
        have S5 := (((S2.ext k3 e3).ext k4 (by rw [← eg3]; exact e4)).wipe [j1]).set (sv := .d d5) (v := x5) j1 (Rep.ext e4 _ _ rd5)
        intro s5 Hs5 D5 cl5 fp5
        refine he k _ (G.blk scope s5 Hs5 D5 cl5 fp5) _ M4 _ M5 i1 ν4 _ _ C4 R5 _ H5 S5 _ fun v7 H7 ⟨s7, g7, k7, e7, r7, ν7, N7, rs7⟩ => ?_
        cases relS_d rs7
        cases (show v7 = V.str kx from r7)
        obtain ⟨eg7, N7'⟩ := Nxt.beside N4.cfg hg4 N7
        rw [eg7] at k7 e7
        refine ⟨kx, ks4, rfl, by rw [G.hw]; exact k7 L _ gset_same, ?_, fun ks2 p => ?_⟩
        · have z := on4.2.1
          show ks4.length + 1 < 4096
          omega
        · have em : Ext (gset (gdel g7 L) L (.tset ks4)) H7 (gset (gset (gdel g7 L) L (.tset ks4)) L (.tset ks2)) (upd H7 L (DLS.SetTO W.w L ks2)) := Ext.mut gset_same
          have km : GOk W (upd H7 L (DLS.SetTO W.w L ks2)) (gset (gset (gdel g7 L) L (.tset ks4)) L (.tset ks2)) := k7.mut (m' := .tset ks2) gset_same upd_same
          rw [gset_gset] at em km
          rw [G.hw]
          exact ⟨zs4 ++ [kx], M5, ν7, gdel g7 L, ks2, i3, gdel_same, N4.trans N7', DLS.once_snoc on4 p, km, (e4.trans e7).trans em⟩
      · have ej : j = ys.length := by omega
        rw [List.drop_eq_nil_of_le (by rw [List.length_map, hlen2]; omega)] at hI
        unfold scI at hI
        cases hI
        exact .inl ⟨⟨ys, q4, by omega⟩, zs2, M3, ν4, g4, ks4, o3, hg4, Ni.trans N4, on4, k4, (ex.trans e3).trans (by rw [← eg3]; exact e4)⟩
    · have ei : i = xs.length := by omega
      rw [List.drop_eq_nil_of_le (by rw [List.length_map, hlen]; omega)] at hO
      unfold scO at hO
      cases hO
      refine .inl ⟨⟨xs, q, by omega⟩, ?_⟩
      exact q' _ _ ⟨.ob L, gset gi L (.tset ks), kk, e1.trans ex, rfl, _, N1.trans (Ni.trans (Nxt.new Ni.cfg hgi (show RelO νi (.tset (onceS zf)) (.tset ks) from once_perm on))), by
        show (νi ++ [L])[Mf.length]? = some L
        rw [← Ni.cfg.len]; simp⟩
  · cases q2
end
end EV

set_option autoImplicit false
/-! all defs of a text, level by level; the facts of a text -/
namespace EV
open PySem PySem.Spec PyProof.Rows L2 DL
theorem mb {α : Type} [DecidableEq α] {a : α} {l : List α} (h : decide (a ∈ l) = true) : a ∈ l := of_decide_eq_true h
/-- what is shown of each def's text -/
structure DefOk (T : Tab) (A : Adr) (W : Wd) (d : DefI) : Prop where
  sc : FnScope d.N d.ps (defScope d.st)
  sb : SB T A W ⟨d.N, defScope d.st, true⟩ (defBody d.st) d.ir
section
variable {P : Program} {w : World} {T : Tab} {A : Adr} {W : Wd} {mg : Str → Option Value} {base : Heap}
def Snd (P : Program) (w : World) (T : Tab) (A : Adr) (W : Wd) (mg : Str → Option Value) (base : Heap) (k : Nat) : Prop := ∀ i d, T.defs[i]? = some d → FnOk P w W.K mg base CX0 (4 * k) (A.fa i) (A.fd i) d.ps (liftSp W d.ps.length (spF (callK T.dfs k i)))
theorem relR_start {ν : List Addr} {n : Nat} {N : List Str} {xs svs : List SV} (hn : n = N.length) (r : RelL ν xs svs) : RelR ν (startD (List.replicate n ("" : Str)) xs) (startD N svs) := by
  unfold startD
  rw [List.length_replicate, hn, plen r]
  refine papp ?_ (prepl (show RelP ν none none from True.intro) _)
  clear hn
  induction r with
  | nil => exact .nil
  | cons a _ ih => exact .cons a ih
theorem dfs_get {i : Nat} {d : DefI} (h : T.defs[i]? = some d) : T.dfs[i]? = some d.df := by
  unfold Tab.dfs
  rw [List.getElem?_map, h]; rfl
theorem callK_inv {k i : Nat} {d : DefI} {xs : List SV} {M M' : MS} {v : SV} (h : T.defs[i]? = some d) (hc : callK T.dfs (k + 1) i xs M = some (v, M')) : xs.length = d.ps.length ∧ body (callK T.dfs k) d.N.length d.ir xs M = some (v, M') := by
  unfold callK at hc
  rw [dfs_get h] at hc
  exact if_inv hc
theorem body_inv {c : Call} {n : Nat} {b : IBs} {xs : List SV} {M M' : MS} {v : SV} (h : body c n b xs M = some (v, M')) : ∃ f ρ', evB c b (startD (List.replicate n ("" : Str)) xs) M = some (f, ρ', M') ∧ ((f = .nx ∧ v = .d .non) ∨ f = .rt v) := by
  unfold body at h
  split at h
  · rename_i ρ' M1 e; cases h; exact ⟨_, _, e, .inl ⟨rfl, rfl⟩⟩
  · rename_i v' ρ' M1 e; cases h; exact ⟨_, _, e, .inr rfl⟩
  · cases h
theorem good_cx {k : Nat} {N ps : List Str} {qual : Str} {sc : Scope} {f : Addr} {cdv : Value} {B : Around} {outer : List Env} {s : Shared} {H : Hp} {E : XK} (hw : w = W.w) (S : FnScope N ps sc) (F : Fct T A W mg) (hr : Room (4 * k + 3) (B.deeper (envOfC qual sc s.heap.objs.size f cdv))) (sn : Snd P w T A W mg base k) : Good T A W ⟨N, sc, true⟩ k (CxD P w W mg base N qual sc f cdv B outer s H E) :=
  { hK := rfl, hw := hw, N := rfl, nd := S.nd, sc := rfl, calm := rfl, room := hr, xe := rfl, fnc := fun _ _ => rfl, fct := F, snd := sn }
theorem ws_body {k : Nat} {X : Cx} {d : DefI} {ν : List Addr} {M M' : MS} {g : G} {xs svs : List SV} {v : SV} {Q : QE} (G : Good T A W ⟨d.N, defScope d.st, true⟩ k X) (hd : DefOk T A W d) (hb : body (callK T.dfs k) d.N.length d.ir xs M = some (v, M')) (Cf : Cfg ν M g) (R : RelL ν xs svs) (q : ∀ s g', PV ν M g v M' s g' → Q s g') : WS X W (defBody d.st) (startD d.N svs) g (retP Q) := by
  obtain ⟨f, ρ', h1, h2⟩ := body_inv hb
  refine ws_le (hd.sb k X G _ M f ρ' M' h1 ν g _ Cf (relR_start rfl R)) ⟨fun ρ2 g2 ⟨ef, ν2, N2, R2⟩ => ?_, fun s g2 ⟨v', ef, p⟩ => ?_, fun ρ2 g2 ⟨ef, p⟩ => ?_, fun ρ2 g2 ⟨ef, p⟩ => ?_⟩
  · subst ef
    rcases h2 with ⟨_, rfl⟩ | h2
    · exact q _ _ ⟨ν2, N2, (show D.non = D.non from rfl)⟩
    · cases h2
  · subst ef
    rcases h2 with ⟨h2, _⟩ | h2
    · cases h2
    · cases h2; exact q _ _ p
  · subst ef
    rcases h2 with ⟨h2, _⟩ | h2 <;> cases h2
  · subst ef
    rcases h2 with ⟨h2, _⟩ | h2 <;> cases h2
theorem snd_all (hw : w = W.w) (F : Fct T A W mg) (ok : ∀ (i : Nat) (d : DefI), T.defs[i]? = some d → DefOk T A W d) : ∀ k, Snd P w T A W mg base k
  | 0 => fun i d h => ⟨fun vs H Q E q => q.1, fun B outer s H args us vs Q E hr he hb hv hs => by
    obtain ⟨hl, svs, g, Q0, r, kk, ⟨ν, M, xs, v, M', Cf, R, hc, _⟩, _⟩ := hs
    unfold callK at hc
    cases hc⟩
  | k + 1 => fun i d h => by
    have sn := snd_all hw F ok k
    obtain ⟨dvs, FD⟩ := F.fn i d h
    have D := ok i d h
    refine fnDD (k := 4 * k + 3) FD D.sc fun cdv B outer s H E svs g Q hl hr hs => ?_
    obtain ⟨ν, M, xs, v, M', Cf, R, hc, hq⟩ := hs
    obtain ⟨_, hb⟩ := callK_inv h hc
    exact ws_body (good_cx hw D.sc F hr sn) D hb Cf R hq
/-- the law -/
theorem law_of {y : Str} {i k : Nat} {d : DefI} (hw : w = W.w) (F : Fct T A W mg) (ok : ∀ (i : Nat) (d : DefI), T.defs[i]? = some d → DefOk T A W d) (h : T.defs[i]? = some d) (hps : d.ps = [y]) (hF : FnP W.K d.x d.qual d.st [] (A.fa i) (A.fd i)) (hr : Room (4 * k + 4) callerA)
    (hm : ∀ ns : List Int, ns.length ≤ 63 → ∃ M', callK T.dfs (k + 1) i [.d (.fl (ns.map D.int))] [] = some (.d (.bl true), M')) : LawAt P w W.K mg base (A.fa i) (A.fd i) y (spLawD W) := by
  have D := ok i d h
  refine lawD (k := 4 * k + 3) hF D.sc hps hr fun cdv s H ns hl hr' => ?_
  obtain ⟨M', hc⟩ := hm ns hl
  obtain ⟨_, hb⟩ := callK_inv h hc
  exact ws_body (good_cx hw D.sc F hr' (snd_all hw F ok k)) D hb (Cfg.nil _) (relL_dd [.fl (ns.map DL.D.int)]) fun s g' ⟨ν', N, r⟩ => relS_d r
end

/-! ### the facts of a text, asked of the written part -/
/-- where a def stands: a class's method, a module's, a classmethod's own def -/
def DefI.ad (d : DefI) (K : PySem.W.Frag) : Addr := if d.cm then He5.wf K (He.ga K d.at_.1) "classmethod" (d.at_.2.getD "") else if d.pr then He5.wf K (He.ga K d.at_.1) "property" (d.at_.2.getD "") else He.fAd K d.at_
def DefI.dd (d : DefI) : He5.DefA := ⟨fun K => d.ad K, d.x, d.qual, defArgs d.st, defBody d.st, defScope d.st, d.dfl, []⟩
def fdOf (K : PySem.W.Frag) (a : Addr) (z : FuncData) : FuncData := match K.lookup a with
  | some ⟨_, _, .func fd, _⟩ => fd
  | _ => z
def Tab.fn (T : Tab) : List He5.DefA := T.defs.map DefI.dd
def Tab.names (T : Tab) : List Str := T.globs.map (·.1) ++ T.cn ++ T.kons.map (·.1)
def Tab.fas (T : Tab) : List He.Fa := T.names.map He.Fa.glo ++ (T.cints.map (fun p => He.Fa.int p.1 p.2) ++ T.free.map He.Fa.free)
def Tab.cl (T : Tab) (K : PySem.W.Frag) (c : Nat) : Addr := He.ga K (T.cn.getD c "")
def Tab.wd (T : Tab) (K : PySem.W.Frag) (w : World) : Wd := ⟨K, T.cl K, w⟩
def Tab.fa (T : Tab) (K : PySem.W.Frag) (i : Nat) : Addr := match T.defs[i]? with
  | some d => d.ad K
  | none => 0
def Tab.adr (T : Tab) (K : PySem.W.Frag) (z : FuncData) : Adr := ⟨T.fa K, fun i => fdOf K (T.fa K i) z⟩
/-- the table holds together -/
def Tab.ok (T : Tab) : Bool :=
  T.globs.all (fun p => match T.defs[p.2]? with | some d => decide (d.at_ = (p.1, none) ∧ d.cm = false ∧ d.pr = false) | none => false) && (
  T.props.all (fun p => match T.defs[p.2.2]? with | some d => decide (d.at_ = (T.cn.getD p.1 "", some p.2.1) ∧ d.cm = false ∧ d.pr = true) | none => false) && (
  T.cmets.all (fun p => match T.defs[p.2.2]? with | some d => decide (d.at_ = (T.cn.getD p.1 "", some p.2.1) ∧ d.cm = true) | none => false) && (
  T.bnds.all (fun p => match T.defs[p.1]? with | some d => decide (p.2 + (dfl d p.2).length = d.ps.length) | none => false))))
def ktB (K : PySem.W.Frag) (a : Addr) (vs : List V) : Bool := match K.lookup a with
  | some ⟨.type c, _, .seq its _, _⟩ => decide (c = "tuple") && (decide (its.size ≤ sizeLine) && He.relAll vs its.toList)
  | _ => false
theorem ktB_ok {K : PySem.W.Frag} {a : Addr} {vs : List V} (h : ktB K a vs = true) : KT K a vs := by
  unfold ktB at h
  split at h
  · rename_i c d its n sl e
    obtain ⟨h1, h2⟩ := Bool.and_eq_true_iff.mp h
    obtain ⟨h3, h4⟩ := Bool.and_eq_true_iff.mp h2
    exact ⟨_, its, n, e, congrArg Value.type (of_decide_eq_true h1), rfl, of_decide_eq_true h3, He.relAll_ok h4⟩
  · cases h
def vOfW : Value → V
  | .int i _ => .int i
  | .str s _ => .str s
  | .bool b => .bl b
  | .ref a => .ref a
  | _ => .non
mutual
/-- a tree of the written part, tuples of tuples -/
def konN (K : PySem.W.Frag) : D → V → Bool
  | .tup l, v => match v with
    | .ref a => match K.lookup a with
      | some ⟨.type c, _, .seq its _, _⟩ => decide (c = "tuple") && (decide (its.size ≤ sizeLine) && (He.relAll (its.toList.map vOfW) its.toList && konNs K l (its.toList.map vOfW)))
      | _ => false
    | _ => false
  | .non, v => decide (v = .non)
  | .bl b, v => decide (v = .bl b)
  | .int i, v => decide (v = .int i)
  | .str s, v => decide (v = .str s)
  | _, _ => false
def konNs (K : PySem.W.Frag) : List D → List V → Bool
  | [], [] => true
  | d :: l, v :: vs => konN K d v && konNs K l vs
  | _, _ => false
end
/-- a tree of the written part: flat, or a tuple of flat ones -/
def konB (K : PySem.W.Frag) (v : V) : D → Bool
  | .tup l => match v, l.mapM flatD with
    | .ref a, some vs => ktB K a vs
    | _, some _ => false
    | v, none => konN K (.tup l) v
  | d => match flatD d with
    | some u => decide (v = u)
    | none => false
theorem flat_rep {W : Wd} {H : Hp} {g : G} {d : D} {v : V} (h : flatD d = some v) : Rep W H g d v := by
  cases d <;> first | (cases h; rfl) | cases h
theorem flats_rep {W : Wd} {H : Hp} {g : G} : ∀ {l : List D} {vs : List V}, Paired (fun a b => flatD a = some b) l vs → Reps W H g l vs
  | _, _, .nil => rfl
  | _, _, .cons r t => ⟨_, _, rfl, flat_rep r, flats_rep t⟩
mutual
theorem konN_ok {W : Wd} {H : Hp} {g : G} : ∀ (d : D) (v : V), konN W.K d v = true → Rep W H g d v
  | .tup l, v, h => by
    unfold konN at h
    split at h
    · rename_i a
      split at h
      · rename_i c dd its n sl e
        obtain ⟨h1, h2⟩ := Bool.and_eq_true_iff.mp h
        obtain ⟨h3, h4⟩ := Bool.and_eq_true_iff.mp h2
        obtain ⟨h5, h6⟩ := Bool.and_eq_true_iff.mp h4
        exact ⟨a, _, rfl, .inr ⟨_, its, n, e, congrArg Value.type (of_decide_eq_true h1), rfl, of_decide_eq_true h3, He.relAll_ok h5⟩, konNs_ok l _ h6⟩
      · cases h
    · cases h
  | .non, v, h => (of_decide_eq_true h : v = .non)
  | .bl b, v, h => (of_decide_eq_true h : v = .bl b)
  | .int i, v, h => (of_decide_eq_true h : v = .int i)
  | .str s, v, h => (of_decide_eq_true h : v = .str s)
  | .lst l, v, h => by cases h
  | .fl l, v, h => by cases h
  | .cls c, v, h => by cases h
  | .ins c fs, v, h => by cases h
theorem konNs_ok {W : Wd} {H : Hp} {g : G} : ∀ (l : List D) (vs : List V), konNs W.K l vs = true → Reps W H g l vs
  | [], [], h => rfl
  | [], _ :: _, h => by cases h
  | _ :: _, [], h => by cases h
  | d :: l, v :: vs, h => by
    obtain ⟨h1, h2⟩ := Bool.and_eq_true_iff.mp (show (konN W.K d v && konNs W.K l vs) = true from h)
    exact ⟨v, vs, rfl, konN_ok d v h1, konNs_ok l vs h2⟩
end
theorem konB_ok {W : Wd} {H : Hp} {g : G} {d : D} {v : V} (h : konB W.K v d = true) : Rep W H g d v := by
  have low : ∀ {d : D}, (match flatD d with | some u => decide (v = u) | none => false) = true → Rep W H g d v := fun {d} h => by
    split at h
    · rename_i u e
      rw [of_decide_eq_true h]; exact flat_rep e
    · cases h
  cases d with
  | tup l =>
    unfold konB at h
    dsimp only at h
    split at h
    · rename_i a vs e
      exact ⟨a, vs, rfl, .inr (ktB_ok h), flats_rep (mapM_inv e)⟩
    · cases h
    · exact konN_ok _ _ h
  | _ => exact low h
def insB (K : PySem.W.Frag) (C : Addr) : Bool :=
  PySem.W.plainGet K C Str.empty && (PySem.W.hasDictIn K C && (PySem.W.plainOver K C && (decide (PySem.W.findIn K (.ref C) "__setattr__" = some (some (.builtin "object.__setattr__"))) && (
  decide (PySem.W.findIn K (.ref C) "__class__" = some (some (.builtin "object.__class__"))) && (decide (PySem.W.specialIn K (.builtin "object.__class__") "__get__" = some (some (.builtin "getset_descriptor.__get__"))) && (
  decide (PySem.W.takesIn K (.builtin "object.__class__") = some true) && decide (PySem.W.mroIn K C (.type "object") = some true)))))))
theorem insB_ok {K : PySem.W.Frag} {C : Addr} (h : insB K C = true) : InsC K C := by
  unfold insB at h
  obtain ⟨h1, h⟩ := Bool.and_eq_true_iff.mp h
  obtain ⟨h2, h⟩ := Bool.and_eq_true_iff.mp h
  obtain ⟨h3, h⟩ := Bool.and_eq_true_iff.mp h
  obtain ⟨h4, h⟩ := Bool.and_eq_true_iff.mp h
  obtain ⟨h5, h⟩ := Bool.and_eq_true_iff.mp h
  obtain ⟨h6, h⟩ := Bool.and_eq_true_iff.mp h
  obtain ⟨h7, h8⟩ := Bool.and_eq_true_iff.mp h
  exact ⟨⟨h1, h2, h3, of_decide_eq_true h4⟩, of_decide_eq_true h5, of_decide_eq_true h6, of_decide_eq_true h7, of_decide_eq_true h8⟩
/-- the defaults of a def -/
def dfsB (K : PySem.W.Frag) : List He.Dv → List D → Bool
  | [], [] => true
  | v :: vs, d :: ds => konB K (He.Dv.v K v) d && dfsB K vs ds
  | _, _ => false
theorem dfsB_ok {W : Wd} : ∀ {vs : List He.Dv} {ds : List D} (j : Nat), dfsB W.K vs ds = true → DefV W ((ds.drop j).map SV.d) ((vs.map (He.Dv.v W.K)).drop j)
  | [], [], j, _ => fun H g _ => by
    cases j <;> rfl
  | [], _ :: _, _, h => by cases h
  | _ :: _, [], _, h => by cases h
  | v :: vs, d :: ds, 0, h => by
    obtain ⟨h1, h2⟩ := Bool.and_eq_true_iff.mp h
    have ih := dfsB_ok 0 h2
    intro H g k
    refine ⟨_, _, rfl, konB_ok h1, ?_⟩
    exact ih H g k
  | v :: vs, d :: ds, j + 1, h => by
    obtain ⟨h1, h2⟩ := Bool.and_eq_true_iff.mp h
    exact dfsB_ok j h2
def Tab.tys (T : Tab) : List Ty := [.non, .bl, .int, .str, .lst, .tup] ++ T.clss.map Ty.cls
def Tab.tv (T : Tab) (K : PySem.W.Frag) : Ty → Value
  | .non => .type "NoneType" | .bl => .type "bool" | .int => .type "int" | .str => .type "str" | .lst => .type "list" | .tup => .type "tuple" | .cls c => .ref (T.cl K c)
/-- a property of a class -/
def propB (K : PySem.W.Frag) (c : Addr) (m : Str) : Bool := decide (PySem.W.findIn K (.ref c) m = some (some (.ref (He.ma K c m)))) && (decide (PySem.W.specialIn K (.ref (He.ma K c m)) "__get__" = some (some (.builtin "property.__get__"))) && (
  decide (PySem.W.takesIn K (.ref (He.ma K c m)) = some true) && (match PySem.W.recIn K (He.ma K c m) "property" with | some (.ref _ :: _) => true | _ => false)))
theorem propB_ok {K : PySem.W.Frag} {c : Addr} {m : Str} (h : propB K c m = true) : PropOf K c m (He.ma K c m) (He5.wf K c "property" m) := by
  unfold propB at h
  obtain ⟨h1, h⟩ := Bool.and_eq_true_iff.mp h
  obtain ⟨h2, h⟩ := Bool.and_eq_true_iff.mp h
  obtain ⟨h3, h4⟩ := Bool.and_eq_true_iff.mp h
  refine ⟨of_decide_eq_true h1, of_decide_eq_true h2, of_decide_eq_true h3, ?_⟩
  unfold He5.wf
  split at h4
  · rename_i g r e
    exact ⟨r, by rw [e]⟩
  · cases h4
/-- asked of the written part -/
def Tab.ex (T : Tab) (K : PySem.W.Frag) : Bool :=
  T.props.all (fun p => propB K (T.cl K p.1) p.2.1) && (
  T.cmets.all (fun p => PySem.W.readsIn K (T.cl K p.1) (.type "type") && (He5.wrapB K (T.cl K p.1) "classmethod" "classmethod.__get__" p.2.1 && PySem.W.fnIn K (He5.wf K (T.cl K p.1) "classmethod" p.2.1))) && (
  T.inits.all (fun p => PySem.W.makesIn K (T.cl K p.1) && (decide (PySem.W.findIn K (.ref (T.cl K p.1)) "__init__" = some (some (.ref (T.fa K p.2)))) && (PySem.W.isFn K (.ref (T.fa K p.2)) && PySem.W.keepIn K (.ref (T.cl K p.1))))) && (
  T.meths.all (fun p => decide (PySem.W.findIn K (.ref (T.cl K p.1)) p.2.1 = some (some (.ref (T.fa K p.2.2)))) && (PySem.W.isFn K (.ref (T.fa K p.2.2)) && PySem.W.keepIn K (.ref (T.fa K p.2.2)))) && (
  T.flds.all (fun p => decide (PySem.W.findIn K (.ref (T.cl K p.1)) p.2 = some none)) && (
  T.clss.all (fun c => insB K (T.cl K c)) && (
  T.cn.all (fun x => PySem.W.keepIn K (.ref (He.ga K x))) && (
  T.kons.all (fun p => konB K (.ref (He.ga K p.1)) p.2) && (T.defs.all (fun d => dfsB K d.dfl d.dvs) && 
  T.tys.all (fun t => T.tys.all fun u => decide (PySem.W.kitOne K (T.tv K t) (T.tv K u) = some (sub1 t u)))))))))))
/-- the bindings, by the def's own place -/
def BndAt (T : Tab) (K : PySem.W.Frag) (i n : Nat) : Prop := ∀ d fd, T.defs[i]? = some d → FunD K d.x d.qual (defArgs d.st) (defBody d.st) (defScope d.st) (d.dd.dvs K) [] (T.fa K i) fd → ∃ ds, Vals ((d.dd.dvs K).drop (n + d.dvs.length - d.ps.length)) ds ∧ Binds K fd d.ps ds
def BndAll (T : Tab) (K : PySem.W.Frag) : List (Nat × Nat) → Prop
  | [] => True
  | (i, n) :: r => BndAt T K i n ∧ BndAll T K r
theorem bndAll_get {T : Tab} {K : PySem.W.Frag} {i n : Nat} : ∀ {l : List (Nat × Nat)}, BndAll T K l → (i, n) ∈ l → BndAt T K i n
  | [], _, h => by cases h
  | (i', n') :: l, ⟨h1, h2⟩, h => by
    rcases List.mem_cons.mp h with h | h
    · cases h; exact h1
    · exact bndAll_get h2 h
/-! ### calls with keywords -/
theorem vals_no : ∀ {xs : List V} {us : List Value} {i : Nat}, Vals xs us → xs[i]? = none → us[i]? = none := fun {xs us i} r h => by
  rw [List.getElem?_eq_none_iff] at h ⊢
  rw [← r.length]; exact h
theorem arr_vals {xs ds : List V} {us its : List Value} (r : Vals xs us) (q : Vals ds its) : ∀ src : List (Nat ⊕ Nat), Vals (arr src xs ds) (arr src us its)
  | [] => .nil
  | .inl i :: src => by
    have ih := arr_vals r q src
    unfold arr at ih ⊢
    rw [List.filterMap_cons, List.filterMap_cons]
    cases e : xs[i]? with
    | none => dsimp only; rw [e, vals_no r e]; exact ih
    | some x =>
      obtain ⟨u, hu, ru⟩ := r.get e
      dsimp only
      rw [e, hu]
      exact .cons ru ih
  | .inr i :: src => by
    have ih := arr_vals r q src
    unfold arr at ih ⊢
    rw [List.filterMap_cons, List.filterMap_cons]
    cases e : ds[i]? with
    | none => dsimp only; rw [e, vals_no q e]; exact ih
    | some x =>
      obtain ⟨u, hu, ru⟩ := q.get e
      dsimp only
      rw [e, hu]
      exact .cons ru ih
/-- self ahead, then each parameter's -/
def arg1 {α : Type} (b : KB) (us ws ds : List α) : List α := us.take b.self ++ arr b.src (us.drop b.self ++ ws) ds
theorem arg1_vals {b : KB} {vs zs ds : List V} {us ws its : List Value} (r : Vals vs us) (q : Vals ds its) (z : Vals zs ws) : Vals (arg1 b vs zs ds) (arg1 b us ws its) := (r.take _).append (arr_vals ((r.drop _).append z) q _)
def KbAt (T : Tab) (K : PySem.W.Frag) (b : KB) : Prop := ∀ d fd, T.defs[b.f]? = some d → FunD K d.x d.qual (defArgs d.st) (defBody d.st) (defScope d.st) (d.dd.dvs K) [] (T.fa K b.f) fd → ∃ its, KBn K fd d.ps (b.self + b.n) b.ks (fun us ws => arg1 b us ws its) (fun vs zs => arg1 b vs zs (d.dd.dvs K))
def KbAll (T : Tab) (K : PySem.W.Frag) : List KB → Prop
  | [] => True
  | b :: r => KbAt T K b ∧ KbAll T K r
theorem kbAll_get {T : Tab} {K : PySem.W.Frag} {b : KB} : ∀ {l : List KB}, KbAll T K l → b ∈ l → KbAt T K b
  | [], _, h => by cases h
  | b' :: l, ⟨h1, h2⟩, h => by
    rcases List.mem_cons.mp h with h | h
    · cases h; exact h1
    · exact kbAll_get h2 h
section
variable {K : PySem.W.Frag} {x qual : Str} {params : Arguments} {body : List Stmt} {scope : Scope} {dvs : List V} {f : Addr} {fd : FuncData} {ps : List Str} {b : KB}
theorem kb0 (F : FunD K x qual params body scope [] [] f fd)
    (h : ∀ (kV doc pm : Value) (an : Option Addr) (cdv ct : Value) (us ws : List Value), us.length = b.self + b.n → ws.length = b.ks.length → bindArgs (PySem.W.fnOf x qual params body scope .none kV doc pm an cdv ct) ⟨us, b.ks.zip ws⟩ = pure (ps.zip (arg1 b us ws []))) :
    ∃ its, KBn K fd ps (b.self + b.n) b.ks (fun us ws => arg1 b us ws its) (fun vs zs => arg1 b vs zs []) := by
  obtain ⟨c1, c2, dV, kV, doc, pm, an, cdv, ct, sl, rfl, c3, c4, hD, c5⟩ := F.ex
  rcases hD with ⟨_, rfl⟩ | ⟨e, _⟩
  · exact ⟨[], ⟨fun s us ws _ l1 l2 => BindsTo.of_looks fun M => .of_pure (h kV doc pm an cdv ct us ws l1 l2), fun r q => arg1_vals r .nil q⟩⟩
  · exact absurd rfl e
theorem kbD (F : FunD K x qual params body scope dvs [] f fd) (hd : dvs ≠ [])
    (h : ∀ (T : Addr) (kV doc pm : Value) (an : Option Addr) (cdv ct : Value) (us its ws : List Value), us.length = b.self + b.n → its.length = dvs.length → ws.length = b.ks.length →
      ∃ k, bindArgs (PySem.W.fnOf x qual params body scope (.ref T) kV doc pm an cdv ct) ⟨us, b.ks.zip ws⟩ = seqItems? (.ref T) >>= k ∧ k (some its.toArray) = pure (ps.zip (arg1 b us ws its))) :
    ∃ its, KBn K fd ps (b.self + b.n) b.ks (fun us ws => arg1 b us ws its) (fun vs zs => arg1 b vs zs dvs) :=
  FunD.kbindsD F (b.self + b.n) b.ks (fun vs ds zs => arg1 b vs zs ds) hd (fun r q z => arg1_vals r q z) h
end
section
variable {T : Tab} {K : PySem.W.Frag} {w : World} {mg : Str → Option Value} {h : Heap} {z : FuncData}
theorem SaysA.facts {fa : List He.Fa} {fn : List He5.DefA} (c : He5.SaysA fa fn K) {f : He.Fa} (h : f ∈ fa) : f.ok K = true := by
  obtain ⟨i, hi, e⟩ := List.mem_iff_getElem.mp h
  exact He5.SaysA.fact c i (f := f) (by rw [List.getElem?_eq_getElem hi, e])
theorem SaysA.defs {fa : List He.Fa} {fn : List He5.DefA} (c : He5.SaysA fa fn K) {d : He5.DefA} (h : d ∈ fn) : ∃ fd, FunD K d.name d.qual d.params d.body d.scope (d.dvs K) (d.kws K) (d.at_ K) fd := by
  obtain ⟨i, hi, e⟩ := List.mem_iff_getElem.mp h
  exact He5.SaysA.def_ c i (d := d) (by rw [List.getElem?_eq_getElem hi, e])
theorem fun_at (c : He5.SaysA T.fas T.fn K) {i : Nat} {d : DefI} (hd : T.defs[i]? = some d) : FunD K d.x d.qual (defArgs d.st) (defBody d.st) (defScope d.st) (d.dd.dvs K) [] (T.fa K i) (fdOf K (T.fa K i) z) := by
  obtain ⟨fd, F⟩ := SaysA.defs c (d := d.dd) (List.mem_map_of_mem (List.mem_of_getElem? hd))
  have e : T.fa K i = d.ad K := by unfold Tab.fa; rw [hd]
  have F : FunD K d.x d.qual (defArgs d.st) (defBody d.st) (defScope d.st) (d.dd.dvs K) [] (d.ad K) fd := F
  rw [← e] at F
  have e2 : fdOf K (T.fa K i) z = fd := by
    obtain ⟨oc, od, dV, kV, doc, pm, an, cdv, ct, osl, _, lk, _⟩ := F.ex
    unfold fdOf; rw [lk]
  rw [e2]; exact F
/-- reads of a class, out of readsIn alone -/
theorem cread_in {C : Addr} (h : PySem.W.readsIn K C (.type "type") = true) : ClX.CRead K C (.type "type") := by
  refine ⟨h, ?_⟩
  unfold PySem.W.readsIn at h
  obtain ⟨h, _⟩ := Bool.and_eq_true_iff.mp h
  obtain ⟨h, _⟩ := Bool.and_eq_true_iff.mp h
  obtain ⟨h, h3⟩ := Bool.and_eq_true_iff.mp h
  obtain ⟨_, h2⟩ := Bool.and_eq_true_iff.mp h
  unfold PySem.W.specialIn
  rw [beq_iff_eq.mp h2, Option.bind_some]
  exact beq_iff_eq.mp h3
theorem fct_of (KX : K.In h) (G : h.Ns mainGlobals mg) (c : He5.SaysA T.fas T.fn K) (ex : T.ex K = true) (ok : T.ok = true) (hb : BndAll T K T.bnds) (hkb : KbAll T K T.kbnds) : Fct T (T.adr K z) (T.wd K w) mg := by
  unfold Tab.ex at ex
  obtain ⟨xp, ex⟩ := Bool.and_eq_true_iff.mp ex
  obtain ⟨x0, ex⟩ := Bool.and_eq_true_iff.mp ex
  obtain ⟨x1, ex⟩ := Bool.and_eq_true_iff.mp ex
  obtain ⟨x2, ex⟩ := Bool.and_eq_true_iff.mp ex
  obtain ⟨x3, ex⟩ := Bool.and_eq_true_iff.mp ex
  obtain ⟨x4, ex⟩ := Bool.and_eq_true_iff.mp ex
  obtain ⟨x5, ex⟩ := Bool.and_eq_true_iff.mp ex
  obtain ⟨x6, ex⟩ := Bool.and_eq_true_iff.mp ex
  obtain ⟨x8, x7⟩ := Bool.and_eq_true_iff.mp ex
  unfold Tab.ok at ok
  obtain ⟨o1, ok⟩ := Bool.and_eq_true_iff.mp ok
  obtain ⟨op, ok⟩ := Bool.and_eq_true_iff.mp ok
  obtain ⟨o2, o4⟩ := Bool.and_eq_true_iff.mp ok
  have hg : ∀ x, x ∈ T.names → mg x = some (.ref (He.ga K x)) := fun x hx => He.glo_ok KX G (SaysA.facts c (List.mem_append_left _ (List.mem_map_of_mem hx)))
  refine { fn := ?_, glob := ?_, bnd := ?_, cname := ?_, init := ?_, meth := ?_, fld := ?_, cls := ?_, free := ?_, kon := ?_, kint := ?_, cmet := ?_, prop := ?_, kbnd := ?_, kit := ?_ }
  · exact fun i d hd => ⟨_, fun_at c hd⟩
  · intro x i hx
    have := List.all_eq_true.mp o1 _ hx
    dsimp only at this
    split at this
    · rename_i d hd
      obtain ⟨e, ec, ep⟩ := of_decide_eq_true this
      have e2 : T.fa K i = He.ga K x := by unfold Tab.fa; rw [hd]; dsimp only; unfold DefI.ad; rw [ec, ep, e]; rfl
      refine ⟨?_, ?_⟩
      · show mg x = some (.ref (T.fa K i))
        rw [e2]
        exact hg x (List.mem_append_left _ (List.mem_append_left _ (List.mem_map_of_mem (f := (·.1)) hx)))
      · exact (fun_at (z := z) c hd).kp
    · cases this
  · intro i n d hn hd
    obtain ⟨ds, h1, h2⟩ := bndAll_get hb hn d _ hd (fun_at (z := z) c hd)
    refine ⟨_, ds, h1, h2, dfsB_ok (W := T.wd K w) _ (List.all_eq_true.mp x8 d (List.mem_of_getElem? hd)), ?_⟩
    have := List.all_eq_true.mp o4 _ hn
    dsimp only at this
    rw [hd] at this
    exact of_decide_eq_true this
  · intro x c' hx
    have hx : (x, c') ∈ T.cn.zipIdx := hx
    obtain ⟨j, hj⟩ := List.getElem?_of_mem hx
    rw [List.getElem?_zipIdx] at hj
    obtain ⟨y, h1, h2⟩ := map_inv hj
    cases h2
    have e : T.cl K (0 + j) = He.ga K x := by
      unfold Tab.cl
      rw [Nat.zero_add, List.getD_eq_getElem?_getD, h1]; rfl
    refine ⟨?_, ?_⟩
    · show mg x = some (.ref (T.cl K (0 + j)))
      rw [e]
      exact hg x (List.mem_append_left _ (List.mem_append_right _ (List.mem_of_getElem? h1)))
    · show PySem.W.keepIn K (.ref (T.cl K (0 + j))) = true
      rw [e]
      exact List.all_eq_true.mp x5 x (List.mem_of_getElem? h1)
  · intro c' i hi
    have h1 := List.all_eq_true.mp x1 _ hi
    obtain ⟨h1, h2⟩ := Bool.and_eq_true_iff.mp h1
    obtain ⟨h2, h3⟩ := Bool.and_eq_true_iff.mp h2
    obtain ⟨h3, h4⟩ := Bool.and_eq_true_iff.mp h3
    exact ⟨h1, of_decide_eq_true h2, h3, h4⟩
  · intro c' m i hi
    have h1 := List.all_eq_true.mp x2 _ hi
    obtain ⟨h1, h2⟩ := Bool.and_eq_true_iff.mp h1
    obtain ⟨h2, h3⟩ := Bool.and_eq_true_iff.mp h2
    exact ⟨of_decide_eq_true h1, h2, h3⟩
  · exact fun c' f hf => show PySem.W.findIn K (.ref (T.cl K c')) f = some none from of_decide_eq_true (List.all_eq_true.mp x3 _ hf)
  · exact fun c' hc => insB_ok (List.all_eq_true.mp x4 _ hc)
  · exact fun x hx => He.free_ok KX G (SaysA.facts c (List.mem_append_right _ (List.mem_append_right _ (List.mem_map_of_mem hx))))
  · intro x d hx
    refine ⟨.ref (He.ga K x), .ref (He.ga K x), hg x (List.mem_append_right _ (List.mem_map_of_mem (f := (·.1)) hx)), rfl, fun H g _ => konB_ok (W := T.wd K w) (List.all_eq_true.mp x6 _ hx)⟩
  · exact fun x i hx => He.int_ok KX G (SaysA.facts c (List.mem_append_right _ (List.mem_append_left _ (List.mem_map_of_mem (f := fun p => He.Fa.int p.1 p.2) hx))))
  · intro c' m i hi
    have h1 := List.all_eq_true.mp x0 _ hi
    obtain ⟨h1, h2⟩ := Bool.and_eq_true_iff.mp h1
    obtain ⟨h2, h3⟩ := Bool.and_eq_true_iff.mp h2
    have q := List.all_eq_true.mp o2 _ hi
    dsimp only at q h1 h2 h3
    split at q
    · rename_i d hd
      obtain ⟨e, ec⟩ := of_decide_eq_true q
      have e2 : T.fa K i = He5.wf K (T.cl K c') "classmethod" m := by unfold Tab.fa; rw [hd]; dsimp only; unfold DefI.ad; rw [ec, e]; rfl
      refine ⟨cread_in h1, He.ma K (T.cl K c') m, ?_⟩
      show ClX.CMet K (T.cl K c') (.type "type") m _ (T.fa K i)
      rw [e2]
      exact He5.cmet_of h2 h3
    · cases q
  · intro c' m i hi
    have h1 := List.all_eq_true.mp xp _ hi
    have q := List.all_eq_true.mp op _ hi
    dsimp only at q h1
    split at q
    · rename_i d hd
      obtain ⟨e, ec, ep⟩ := of_decide_eq_true q
      have e2 : T.fa K i = He5.wf K (T.cl K c') "property" m := by unfold Tab.fa; rw [hd]; dsimp only; unfold DefI.ad; rw [ec, ep, e]; rfl
      refine ⟨He.ma K (T.cl K c') m, ?_⟩
      show PropOf K (T.cl K c') m _ (T.fa K i)
      rw [e2]
      exact propB_ok h1
    · cases q
  · intro b d hb' hd
    obtain ⟨its, hk⟩ := kbAll_get hkb hb' d _ hd (fun_at (z := z) c hd)
    exact ⟨_, its, hk, dfsB_ok (W := T.wd K w) 0 (List.all_eq_true.mp x8 d (List.mem_of_getElem? hd))⟩
  · have tys : ∀ t, tyIn T t → t ∈ T.tys := fun t ht => by
      cases t with
      | cls c => exact List.mem_append_right _ (List.mem_map_of_mem ht)
      | _ => exact List.mem_append_left _ (by decide)
    have tv : ∀ t, tyVal (T.wd K w) t = T.tv K t := fun t => by cases t <;> rfl
    intro t u ht hu
    rw [tv, tv]
    exact of_decide_eq_true (List.all_eq_true.mp (List.all_eq_true.mp x7 t (tys t ht)) u (tys u hu))
end
/-- the law's facts, out of the head's -/
theorem law_facts {T : Tab} {P : Program} {w : World} {K : PySem.W.Frag} {h : Heap} {mg : Str → Option Value} {f : Addr} (z : FuncData) {L k : Nat} {dL : DefI} (KX : K.In h) (G : h.Ns mainGlobals mg) (hfa : mg ("law" : Str) = some (.ref f)) (c : He5.SaysA T.fas T.fn K) (ex : T.ex K = true) (ok : T.ok = true) (hb : BndAll T K T.bnds) (hkb : KbAll T K T.kbnds)
    (okd : ∀ A W (i : Nat) (d : DefI), T.defs[i]? = some d → DefOk T A W d) (hL : T.defs[L]? = some dL) (hx : dL.ps = [("_law_script" : Str)]) (hg : (("law" : Str), L) ∈ T.globs) (hdf : dL.dfl = [])
    (hbi : ∀ (kV doc pm : Value) (an : Option Addr) (cdv ct : Value) (us : List Value), us.length = 1 → bindArgs (PySem.W.fnOf dL.x dL.qual (defArgs dL.st) (defBody dL.st) (defScope dL.st) .none kV doc pm an cdv ct) ⟨us, []⟩ = pure ([("_law_script" : Str)].zip us))
    (hr : Room (4 * k + 4) callerA) (hm : ∀ ns : List Int, ns.length ≤ 63 → ∃ M', callK T.dfs (k + 1) L [.d (.fl (ns.map DL.D.int))] [] = some (.d (.bl true), M')) :
    ∃ fd : FuncData, (∀ (s : Shared) (v : Value), BindsTo s fd ⟨[v], []⟩ [("_law_script", v)]) ∧ ∀ base : Heap, K.In base → base.Ns mainGlobals mg → LawAt P w K mg base f fd "_law_script" (spLawD (T.wd K w)) := by
  have F := fct_of (w := w) (z := z) KX G c ex ok hb hkb
  have e := F.glob "law" L hg
  have e2 : f = T.fa K L := by
    have := hfa.symm.trans e.1
    cases this; rfl
  subst e2
  have FD := fun_at (z := z) c hL
  have ed : dL.dd.dvs K = [] := by
    show (dL.dfl).map (He.Dv.v K) = []
    rw [hdf]; rfl
  rw [ed] at FD
  have b := FunD.bindsA (ps := [("_law_script" : Str)]) FD hbi
  refine ⟨_, fun s v => b s [v] rfl, fun base _ _ => ?_⟩
  exact law_of (A := T.adr K z) (W := T.wd K w) rfl F (okd _ _) hL hx FD hr hm
end EV

set_option autoImplicit false
/-! dicts, targets that are fields, counts of enumerate, starred targets -/
namespace EV
open PySem PySem.Spec PyProof.Rows L2 DL
/-! ### tables of keys -/
section
variable {κ α β : Type} [DecidableEq κ] {F : α → β → Prop}
def vl (l : List (κ × α)) (k : κ) : Option α := (l.find? fun kv => decide (kv.1 = k)).map (·.2)
def pt (l : List (κ × α)) (k : κ) (v : α) : List (κ × α) := if (l.any fun kv => decide (kv.1 = k)) = true then l.map (fun kv => if kv.1 = k then (kv.1, v) else kv) else l ++ [(k, v)]
abbrev PKey (F : α → β → Prop) : List (κ × α) → List (κ × β) → Prop := Paired fun p q => p.1 = q.1 ∧ F p.2 q.2
theorem vl_some : ∀ {l : List (κ × α)} {m : List (κ × β)} {k : κ} {a : α}, PKey F l m → vl l k = some a → ∃ b, vl m k = some b ∧ F a b
  | _, _, k, a, .nil, h => by cases h
  | _, _, k, a, .cons (a := p) (b := q) r t, h => by
    unfold vl at h ⊢
    rw [List.find?_cons] at h ⊢
    rw [← r.1]
    by_cases z : p.1 = k
    · rw [decide_eq_true z] at h ⊢
      cases h
      exact ⟨q.2, rfl, r.2⟩
    · rw [decide_eq_false z] at h ⊢
      exact vl_some t h
theorem vl_none : ∀ {l : List (κ × α)} {m : List (κ × β)} {k : κ}, PKey F l m → vl l k = none → vl m k = none
  | _, _, k, .nil, h => rfl
  | _, _, k, .cons (a := p) (b := q) r t, h => by
    unfold vl at h ⊢
    rw [List.find?_cons] at h ⊢
    rw [← r.1]
    by_cases z : p.1 = k
    · rw [decide_eq_true z] at h
      cases h
    · rw [decide_eq_false z] at h ⊢
      exact vl_none t h
theorem any_rel : ∀ {l : List (κ × α)} {m : List (κ × β)} {k : κ}, PKey F l m → (l.any fun kv => decide (kv.1 = k)) = (m.any fun kv => decide (kv.1 = k))
  | _, _, k, .nil => rfl
  | _, _, k, .cons r t => by rw [List.any_cons, List.any_cons, any_rel t, r.1]
theorem repl_rel {k : κ} {v : α} {w : β} (h : F v w) : ∀ {l : List (κ × α)} {m : List (κ × β)}, PKey F l m → PKey F (l.map fun kv => if kv.1 = k then (kv.1, v) else kv) (m.map fun kv => if kv.1 = k then (kv.1, w) else kv)
  | _, _, .nil => .nil
  | _, _, .cons (a := p) (b := q) r t => by
    refine .cons ?_ (repl_rel h t)
    dsimp only
    by_cases z : p.1 = k
    · rw [if_pos z, if_pos (r.1.symm.trans z)]; exact ⟨r.1, h⟩
    · rw [if_neg z, if_neg (fun y => z (r.1.trans y))]; exact r
theorem pt_rel {l : List (κ × α)} {m : List (κ × β)} {k : κ} {v : α} {w : β} (r : PKey F l m) (h : F v w) : PKey F (pt l k v) (pt m k w) := by
  unfold pt
  rw [any_rel r]
  by_cases z : (m.any fun kv => decide (kv.1 = k)) = true
  · rw [if_pos z, if_pos z]; exact repl_rel h r
  · rw [if_neg z, if_neg z]; exact papp r (.cons ⟨rfl, h⟩ .nil)
end
section
variable {W : Wd} {H : Hp} {g : G} {κ : Type}
theorem sf_pair : ∀ {l : List (κ × SV)} {xs : List (κ × V)}, RepSf W H g l xs → PKey (RepS W H g) l xs
  | [], _, h => by cases (show _ = [] from h); exact .nil
  | p :: l, _, h => by
    obtain ⟨x, r, rfl, h1, h2⟩ := h
    exact .cons ⟨rfl, h1⟩ (sf_pair h2)
theorem pair_sf : ∀ {l : List (κ × SV)} {xs : List (κ × V)}, PKey (RepS W H g) l xs → RepSf W H g l xs
  | _, _, .nil => rfl
  | _, _, .cons (b := q) r t => ⟨q.2, _, by rw [r.1], r.2, pair_sf t⟩
end
theorem key_rep {W : Wd} {H : Hp} {g : G} {y : SV} {k : Key} {v : V} (h : keyD y = some k) (r : RepS W H g y v) : v = kV k := by
  cases y with
  | ob i => cases h
  | d x => cases x <;> first | (cases h; exact r) | cases h
theorem key_d {y s : SV} {k : Key} {ν : List Addr} (h : keyD y = some k) (r : RelS ν y s) : keyD s = some k := by
  cases y with
  | ob i => cases h
  | d x => rw [relS_d r]; exact h
section
variable {W : Wd} {H : Hp} {g : G} {M M' : MS} {ν : List Addr} {x s : SV} {kvs : List (Key × SV)}
/-- a dict, locked or not -/
theorem dct_rd (Cf : Cfg ν M g) (K : GOk W H g) (h : dctOf M x = some kvs) (r : RelS ν x s) : ∃ a gs xs, s = .ob a ∧ RelF ν kvs gs ∧ Rd H a (.dK xs) ∧ RepSf W H g gs xs := by
  unfold dctOf at h
  split at h
  · rename_i i
    split at h
    · rename_i l e
      cases h
      obtain ⟨a, u, rfl, ha, hu, ho⟩ := Cf.obj e r
      cases u <;> first | exact False.elim ho | skip
      rename_i gs
      obtain ⟨xs, h1, h2⟩ := K a _ hu
      exact ⟨a, gs, xs, rfl, ho, .inl h1, h2⟩
    · rename_i l e
      cases h
      obtain ⟨a, u, rfl, ha, hu, ho⟩ := Cf.obj e r
      cases u <;> first | exact False.elim ho | skip
      rename_i gs
      obtain ⟨o, xs, h1, h2⟩ := K a _ hu
      exact ⟨a, gs, xs, rfl, ho, .inr ⟨o, h1⟩, h2⟩
    · cases h
  · cases h
end
def slBN (i : Expr) : Prop := slB i = true
theorem nosl_of {i : Expr} (h : slB i = true) : NoSl i := fun ov iv => by
  cases i <;> first | rfl | cases h
section
variable {T : Tab} {A : Adr} {W : Wd} {C : CC} {pos p apos : Pos} {a b e o i : Expr} {ra rb re ro ri : IE}
theorem se_dnew : SE T A W C (.Dict [] [] pos) .dnew := fun k X G ρ M v M' he ν g ρR Cf R => by
  unfold evE EV.new at he
  cases he
  intro σ H S Q' q'
  refine ts_of pe_dnewK fun p hp => ?_
  have gp : g p = none := S.ok.free hp
  refine q' _ _ ⟨.ob p, gset g p (.dct []), S.ok.newOb (m := .dct []) hp ⟨[], upd_same, rfl⟩, Ext.newOb hp, rfl, _, Nxt.new (o := .dct []) (u := .dct []) Cf gp Paired.nil, ?_⟩
  show (ν ++ [p])[M.length]? = some p
  rw [← Cf.len]; simp
theorem Good.hu1 {k : Nat} {X : Cx} (G : Good T A W C k X) : X.A.units + 1 < cLine := by have := G.hu; omega
theorem se_dget (hs : slB b = true) (ha : SE T A W C a ra) (hb : SE T A W C b rb) : SE T A W C (.Subscript a b pos) (.dget ra rb) := fun k X G ρ M v M' he ν g ρR Cf R => by
  unfold evE at he
  obtain ⟨⟨x, M1⟩, h1, h2⟩ := bind_inv he
  obtain ⟨⟨y, M2⟩, h3, h4⟩ := bind_inv h2
  obtain ⟨kvs, h5, h6⟩ := bind_inv h4
  obtain ⟨key, h7, h8⟩ := bind_inv h6
  obtain ⟨w, h9, h10⟩ := map_inv h8
  cases h10
  intro σ H S Q' q'
  refine ts_of (pe_dget G.hu1 pe_s pe_s (nosl_of hs)) ?_
  refine ha k X G ρ M x M1 h1 ν g ρR Cf R σ H S _ fun vx H1 ⟨sx, g1, k1, e1, r1, ν1, N1, rs1⟩ => ?_
  refine hb k X G ρ M1 y _ h3 ν1 g1 ρR N1.cfg (N1.rr R) σ H1 (S.ext k1 e1) _ fun vy H2 ⟨sy, g2, k2, e2, r2, ν2, N2, rs2⟩ => ?_
  obtain ⟨ad, gs, xs, rfl, rf, rd, rx⟩ := dct_rd N2.cfg k2 h5 (N2.rs rs1)
  cases (show vx = .ref ad from r1)
  obtain ⟨s, q1, q2⟩ := vl_some rf (show vl kvs key = some v from h9)
  obtain ⟨vv, q3, q4⟩ := vl_some (sf_pair rx) q1
  exact ⟨ad, vv, rfl, .inl ⟨xs, key, rd, key_rep (key_d h7 rs2) r2, q3.symm⟩, q' _ _ ⟨s, g2, k2, e1.trans e2, q4, ν2, N1.trans N2, q2⟩⟩
theorem din_low {ng : Bool} {k : Nat} {X : Cx} (G : Good T A W C k X) (ha : SE T A W C a ra) (hb : SE T A W C b rb) {ρ : Rho} {M M' : MS} {v : SV} (he : evE (callK T.dfs k) (.din ng ra rb) ρ M = some (v, M')) {ν : List Addr} {g : DL.G} {ρR : Rho} (Cf : Cfg ν M g) (R : RelR ν ρ ρR) {σ : L2.St} {H : Hp} (S : Sim W ρR g σ H) {Q' : VK} :
    ∃ t, v = .d (.bl t) ∧ ((∀ H' g' ν', GOk W H' g' → Ext g H g' H' → Nxt ν M g ν' M' g' → Q' (.bl t) H') → (match ng with | false => tDIn (tS X a) (tS X b) σ H Q' | true => tDNotIn (tS X a) (tS X b) σ H Q')) := by
  unfold evE at he
  obtain ⟨⟨y, M1⟩, h1, h2⟩ := bind_inv he
  obtain ⟨⟨x, M2⟩, h3, h4⟩ := bind_inv h2
  obtain ⟨kvs, h5, h6⟩ := bind_inv h4
  obtain ⟨key, h7, h8⟩ := bind_inv h6
  obtain ⟨rfl, rfl⟩ := ret_inv h8
  refine ⟨_, rfl, fun q' => ?_⟩
  have low : ∀ {Qx : VK}, (∀ ad ov H' g' ν', DGet H' ad (kV key) ov → ov.isSome = (valS kvs key).isSome → GOk W H' g' → Ext g H g' H' → Nxt ν M g ν' M' g' → ∀ vy vx, vy = kV key → vx = V.ref ad → Qx (.bl (if ng then !ov.isSome else ov.isSome)) H') → tS X a σ H fun y H1 => tS X b σ H1 fun x H2 => ∃ a o, x = .ref a ∧ DGet H2 a y o ∧ Qx (.bl (if ng then !o.isSome else o.isSome)) H2 := fun {Qx} qx => by
    refine ha k X G ρ M y M1 h1 ν g ρR Cf R σ H S _ fun vy H1 ⟨sy, g1, k1, e1, r1, ν1, N1, rs1⟩ => ?_
    refine hb k X G ρ M1 x _ h3 ν1 g1 ρR N1.cfg (N1.rr R) σ H1 (S.ext k1 e1) _ fun vx H2 ⟨sx, g2, k2, e2, r2, ν2, N2, rs2⟩ => ?_
    obtain ⟨ad, gs, xs, rfl, rf, rd, rx⟩ := dct_rd N2.cfg k2 h5 rs2
    cases (show vx = .ref ad from r2)
    have ek : vy = kV key := key_rep (key_d h7 rs1) r1
    have dg : DGet H2 ad (kV key) (valV xs key) := .inl ⟨xs, key, rd, rfl, rfl⟩
    have es : (valV xs key).isSome = (valS kvs key).isSome := by
      cases z : valS kvs key with
      | none => rw [show valV xs key = none from vl_none (sf_pair rx) (vl_none rf z)]; rfl
      | some w =>
        obtain ⟨s, q1, q2⟩ := vl_some rf (show vl kvs key = some w from z)
        obtain ⟨vv, q3, q4⟩ := vl_some (sf_pair rx) q1
        rw [show valV xs key = some vv from q3]; rfl
    refine ⟨ad, valV xs key, rfl, by rw [ek]; exact dg, qx ad _ H2 g2 ν2 dg es k2 (e1.trans e2) (N1.trans N2) vy _ ek rfl⟩
  cases ng with
  | false => exact low (Qx := Q') fun ad ov H' g' ν' _ es k2 e2 N2 _ _ _ _ => (by rw [es]; exact q' _ _ _ k2 e2 N2)
  | true => exact low (Qx := Q') fun ad ov H' g' ν' _ es k2 e2 N2 _ _ _ _ => (by rw [es]; exact q' _ _ _ k2 e2 N2)
theorem se_din (hm : stB b = true) (ha : SE T A W C a ra) (hb : SE T A W C b rb) : SE T A W C (.Compare a [.In] [b] pos) (.din false ra rb) := fun k X G ρ M v M' he ν g ρR Cf R => by
  intro σ H S Q' q'
  obtain ⟨t, rfl, h⟩ := din_low G ha hb he Cf R S (Q' := Q')
  exact ts_of (pe_cmp (pc_din G.hu1 pe_s pe_s) (mark_eq hm)) (h fun H' g' ν' k2 e2 N2 => q' _ _ ⟨.d (.bl t), g', k2, e2, rfl, ν', N2, rfl⟩)
theorem se_dnin (hm : stB b = true) (ha : SE T A W C a ra) (hb : SE T A W C b rb) : SE T A W C (.Compare a [.NotIn] [b] pos) (.din true ra rb) := fun k X G ρ M v M' he ν g ρR Cf R => by
  intro σ H S Q' q'
  obtain ⟨t, rfl, h⟩ := din_low G ha hb he Cf R S (Q' := Q')
  exact ts_of (pe_cmp (pc_dnotin G.hu1 pe_s pe_s) (mark_eq hm)) (h fun H' g' ν' k2 e2 N2 => q' _ _ ⟨.d (.bl t), g', k2, e2, rfl, ν', N2, rfl⟩)
theorem st_din (hm : stB b = true) (ha : SE T A W C a ra) (hb : SE T A W C b rb) : ST T A W C (.Compare a [.In] [b] pos) (.val (.din false ra rb)) := fun k X G ρ M v M' he ν g ρR Cf R => by
  unfold evT at he
  obtain ⟨⟨x, M1⟩, h1, h2⟩ := bind_inv he
  obtain ⟨t, h3, h4⟩ := map_inv h2
  cases h4
  intro σ H S Q' q'
  obtain ⟨t', rfl, h⟩ := din_low G ha hb h1 Cf R S (Q' := fun x H1 => ∃ d, x = .bl d ∧ Q' d H1)
  cases h3
  exact tt_of (pt_cmp (pc_din G.hu1 pe_s pe_s) (mark_eq hm)) (h fun H' g' ν' k2 e2 N2 => ⟨_, rfl, q' _ _ ⟨g', k2, e2, rfl, ν', N2⟩⟩)
theorem st_dnin (hm : stB b = true) (ha : SE T A W C a ra) (hb : SE T A W C b rb) : ST T A W C (.Compare a [.NotIn] [b] pos) (.val (.din true ra rb)) := fun k X G ρ M v M' he ν g ρR Cf R => by
  unfold evT at he
  obtain ⟨⟨x, M1⟩, h1, h2⟩ := bind_inv he
  obtain ⟨t, h3, h4⟩ := map_inv h2
  cases h4
  intro σ H S Q' q'
  obtain ⟨t', rfl, h⟩ := din_low G ha hb h1 Cf R S (Q' := fun x H1 => ∃ d, x = .bl d ∧ Q' d H1)
  cases h3
  exact tt_of (pt_cmp (pc_dnotin G.hu1 pe_s pe_s) (mark_eq hm)) (h fun H' g' ν' k2 e2 N2 => ⟨_, rfl, q' _ _ ⟨g', k2, e2, rfl, ν', N2⟩⟩)
theorem s1_dput {sp : Pos} (hs : swapsWith e (some (.Subscript o i sp)) pos.line (envS C.sc) = pure false) (he : SE T A W C e re) (ho : SE T A W C o ro) (hi : SE T A W C i ri) : S1 T A W C (.Assign [.Subscript o i sp] e pos) (.dput ro ri re) := fun k X G ρ M fl ρ' M' h0 ν g ρR Cf R => by
  unfold evS at h0
  obtain ⟨⟨v, M1⟩, e1, e2⟩ := bind_inv h0
  obtain ⟨⟨x, M2⟩, e3, e4⟩ := bind_inv e2
  obtain ⟨⟨y, M3⟩, e5, e6⟩ := bind_inv e4
  dsimp only at e6
  split at e6
  · rename_i ad
    split at e6
    · rename_i kvs ek
      obtain ⟨key, e7, e8⟩ := bind_inv e6
      obtain ⟨hl, e9⟩ := if_inv e8
      cases e9
      intro σ H S D kk
      refine t1_of (ps_dput G.hu1 pe_s pe_s pe_s (by rw [sw_env, G.sc]; exact hs)) ?_
      refine he k X G ρ M v M1 e1 ν g ρR Cf R σ H S _ fun vv H1 ⟨sv, g1, k1, x1, r1, ν1, N1, rs1⟩ => ?_
      refine ho k X G ρ M1 _ M2 e3 ν1 g1 ρR N1.cfg (N1.rr R) σ H1 (S.ext k1 x1) _ fun vx H2 ⟨sx, g2, k2, x2, r2, ν2, N2, rs2⟩ => ?_
      refine hi k X G ρ M2 y M3 e5 ν2 g2 ρR N2.cfg (N2.rr (N1.rr R)) σ H2 (S.ext k2 (x1.trans x2)) _ fun vy H3 ⟨sy, g3, k3, x3, r3, ν3, N3, rs3⟩ => ?_
      obtain ⟨a1, u, rfl, ha, hu, hr⟩ := N3.cfg.obj ek (N3.rs rs2)
      cases (show vx = .ref a1 from r2)
      cases u <;> first | exact False.elim hr | skip
      rename_i gs
      have hr : RelF ν3 kvs gs := hr
      obtain ⟨xs, hx, rx⟩ := k3 a1 _ hu
      have ek : vy = kV key := key_rep (key_d e7 rs3) r3
      have rv3 : RepS W H3 g3 sv vv := (r1.ext x2).ext x3
      have ex4 : Ext g3 H3 (gset g3 a1 (.dct (pt gs key sv))) (upd H3 a1 (.dK (putK xs key vv))) := Ext.mut hu
      have k4 : GOk W (upd H3 a1 (.dK (putK xs key vv))) (gset g3 a1 (.dct (pt gs key sv))) := k3.mut hu ⟨putK xs key vv, upd_same, (pair_sf (pt_rel (sf_pair rx) rv3)).ext ex4⟩
      have hlen : xs.length < sizeLine := by
        rw [← plen (sf_pair rx), ← plen hr, sizeLine_eq]; omega
      refine ⟨a1, _, rfl, .inl ⟨xs, key, hx, ek, hlen, rfl⟩, kk.nx _ _ ⟨ρR, _, S.ext k4 (((x1.trans x2).trans x3).trans ex4), ((x1.trans x2).trans x3).trans ex4, rfl, ν3, ((N1.trans N2).trans N3).trans (Nxt.put N3.cfg ‹_› ha (show RelO ν3 (.dct (putK2 kvs key v)) (.dct (pt gs key sv)) from pt_rel hr (N3.rs (N2.rs rs1)))), N3.rr (N2.rr (N1.rr R))⟩⟩
    · cases e6
  · cases e6
end
end EV

set_option autoImplicit false
/-! targets that are fields, augmented fields, a starred target, a start of enumerate -/
namespace EV
open PySem PySem.Spec PyProof.Rows L2 DL
/-! ### o.f op= e -/
def inI (F : Int → Int → Int) : V → V → Hp → VK → Prop := fun x y H Q => ∃ i j, x = .int i ∧ y = .int j ∧ Q (.int (F i j)) H
theorem aug_in {X : Cx} {op : BOp} {F : Int → Int → Int} (h : augF op = some F) : InOp X (opOf op) (inI F) := by
  cases op <;> cases h
  · exact in_add
  · exact in_sub
section
variable {T : Tab} {A : Adr} {W : Wd} {C : CC} {pos p apos : Pos} {a b e o i : Expr} {ra rb re ro ri : IE}
theorem s1_fldA {op : BOp} {F : Int → Int → Int} {f : Str} {pt : Pos} {cs : List Nat} (hF : augF op = some F) (hf : fldB T cs f = true) (ho : SE T A W C o ro) (he : SE T A W C e re) : S1 T A W C (.AugAssign (.Attribute o f pt) (opOf op) e pos) (.fldA cs ro f op re) := fun k X G ρ M fl ρ' M' h0 ν g ρR Cf R => by
  unfold evS at h0
  obtain ⟨⟨y, M1⟩, e1, e2⟩ := bind_inv h0
  obtain ⟨c, e3, e4⟩ := bind_inv e2
  obtain ⟨hc, e5⟩ := if_inv e4
  obtain ⟨v, e6, e7⟩ := bind_inv e5
  obtain ⟨⟨x, M2⟩, e8, e9⟩ := bind_inv e7
  obtain ⟨hc2, e10⟩ := if_inv e9
  dsimp only at e10
  split at e10
  · rename_i ai bi
    obtain ⟨⟨r, M3⟩, e11, e12⟩ := bind_inv e10
    obtain ⟨M4, e13, e14⟩ := bind_inv e12
    cases e14
    obtain ⟨rfl, rfl⟩ := aug_op hF e11
    obtain ⟨n, c', fs, rfl, en, hl, rfl⟩ := fldPut_inv e13
    have ec : c' = c := by
      have h : (match obj M3 n with | some (.ins c _) => some c | _ => none) = some c := hc2
      rw [en] at h; cases h; rfl
    subst ec
    obtain ⟨k1, k2⟩ := fldB_ok hf hc
    intro σ H S D kk
    refine t1_of (ps_fldaug pe_s pe_s (aug_in hF)) ?_
    refine ho k X G ρ M _ M1 e1 ν g ρR Cf R σ H S _ fun vy H1 ⟨sy, g1, k1', x1, r1, ν1, N1, rs1⟩ => ?_
    obtain ⟨s, fo, rs⟩ := fld_rel N1.cfg e3 e6 rs1
    cases relS_d rs
    obtain ⟨an, rfl, hna⟩ := relS_ob rs1
    cases (show vy = .ref an from r1)
    obtain ⟨gs1, hg1, hl1⟩ := (show ∃ gs, g1 an = some (.ins c' gs) ∧ gs.lookup f = some _ from fo)
    obtain ⟨dx1, vs1, hx1, rx1⟩ := k1' an _ hg1
    obtain ⟨v1, hv1, rv1⟩ := RepSf.look rx1 hl1
    cases (show v1 = .int ai from rv1)
    have c1 := (G.fct.cls c' k1).c
    have c2 := G.fct.fld c' f k2
    rw [G.hK]
    refine ⟨an, W.cl c', dx1, vs1, _, rfl, hx1, c1, c2, hv1, ?_⟩
    refine he k X G ρ M1 _ _ e8 ν1 g1 ρR N1.cfg (N1.rr R) σ H1 (S.ext k1' x1) _ fun vx H2 ⟨sx, g2, k2', x2, r2, ν2, N2, rs2⟩ => ?_
    cases relS_d rs2
    cases (show vx = .int bi from r2)
    refine ⟨ai, bi, rfl, rfl, ?_⟩
    obtain ⟨a1, u, ea, ha, hu, hr⟩ := N2.cfg.obj en (N2.rs rs1)
    cases ea
    obtain ⟨gs, rfl, rg⟩ := relO_ins hr
    obtain ⟨dx2, vs2, hx2, rx2⟩ := k2' an _ hu
    have ex4 : Ext g2 H2 (gset g2 an (.ins c' (putS f (.d (.int (F ai bi))) gs))) (upd H2 an (.ins (W.cl c') dx2 (putF f (.int (F ai bi)) vs2))) := Ext.mut hu
    have k4 : GOk W (upd H2 an (.ins (W.cl c') dx2 (putF f (.int (F ai bi)) vs2))) (gset g2 an (.ins c' (putS f (.d (.int (F ai bi))) gs))) := k2'.mut hu ⟨dx2, _, upd_same, (RepSf.put (W := W) (H := H2) (g := g2) (v := .int (F ai bi)) (show RepS W H2 g2 (.d (.int (F ai bi))) (.int (F ai bi)) from rfl) rx2).ext ex4⟩
    refine ⟨dx2, vs2, hx2, by rw [← rx2.length, ← plen rg]; exact hl, kk.nx _ _ ⟨ρR, _, S.ext k4 ((x1.trans x2).trans ex4), (x1.trans x2).trans ex4, rfl, ν2, (N1.trans N2).trans (Nxt.put N2.cfg en ha (show RelO ν2 (.ins c' (putS f (.d (.int (F ai bi))) fs)) (.ins c' (putS f (.d (.int (F ai bi))) gs)) from ⟨rfl, relF_put (show RelS ν2 (.d (.int (F ai bi))) (.d (.int (F ai bi))) from rfl) rg⟩)), N2.rr (N1.rr R)⟩⟩
  · cases e10
end
/-! ### a, o.f, b = a tuple -/
def gFld (K : PySem.W.Frag) (i : Nat) (f : Str) : TG := fun v σ H Q => ∃ a c dx fs, σ[i]? = some (some (.ref a)) ∧ H a = some (.ins c dx fs) ∧ Cls K c ∧ NoAttr K c f ∧ fs.length < 1000 ∧ Q σ (upd H a (.ins c dx (putF f v fs)))
theorem pg_fld {X : Cx} {i : Nat} {x f : Str} {p pos : Pos} (hN : X.N[i]? = some x) (hv : Vis X.env.scope x) (hd : (x == ("__debug__" : Str)) = false) (hcd : (x == ("__classdict__" : Str)) = false) : PG X (.Attribute (.Name x p) f pos) (gFld X.K i f) := by
  refine ⟨fun pins s σ H v u Q I r h => ?_⟩
  obtain ⟨a, c, dx, fs, hs, ha, c1, c2, hl, q⟩ := h
  rw [assign_Attribute]
  refine wpAny_bind (wpAny_holding (thn ((pe_var (pos := p) hN hv hd hcd).run pins s σ H (fun w H1 => w = .ref a ∧ H1 = H) I ⟨.ref a, hs, rfl, rfl⟩) fun ov s1 ⟨x1, H1, I1, r1, e1, e2⟩ => ?_))
  subst e1 e2
  cases r1
  refine wpAny_bind (wpAny_standAt (wpAny_bind (wpAny_holding (setattr_ok I1 ha c1 c2 hl r fun s2 I2 => ?_))))
  exact wpAny_release ⟨σ, _, I2, q⟩
def tgA (K : PySem.W.Frag) : List ISg → TGs
  | [] => gNil
  | .nm i :: r => gCons (gName i) (tgA K r)
  | .at _ o f :: r => gCons (gFld K o f) (tgA K r)
def GA (C : CC) (T : Tab) (es : List Expr) (tg : List ISg) : Prop := ∀ A W k X, Good T A W C k X → PGs X es (tgA X.K tg) ∧ (assignEach es X.env).length = tg.length ∧ (assignEach es X.env).findIdx? (·.1) = none
def atOk (T : Tab) : List ISg → Prop
  | [] => True
  | .nm _ :: r => atOk T r
  | .at cs _ f :: r => fldB T cs f = true ∧ atOk T r
section
variable {T : Tab} {A : Adr} {W : Wd} {C : CC} {pos p pt : Pos} {es : List Expr} {tg : List ISg} {x f : Str} {i : Nat} {e : Expr} {re : IE}
theorem ga_nil : GA C T [] [] := fun A W k X G => ⟨pgs_nil, rfl, rfl⟩
theorem ga_nm (h : tgB C i x = true) (t : GA C T es tg) : GA C T (.Name x pos :: es) (.nm i :: tg) := fun A W k X G => by
  obtain ⟨h1, h2, h3⟩ := tgB_ok G h
  obtain ⟨t1, t2, t3⟩ := t A W k X G
  refine ⟨pgs_cons (pg_name G.nd h1 h2 h3) t1 rfl, congrArg (· + 1) t2, ?_⟩
  show List.findIdx? (·.1) ((false, assign (.Name x pos) X.env) :: assignEach es X.env) = none
  rw [List.findIdx?_cons]
  simp [t3]
theorem ga_at {cs : List Nat} (h : nameB C i x = true) (t : GA C T es tg) : GA C T (.Attribute (.Name x p) f pos :: es) (.at cs i f :: tg) := fun A W k X G => by
  obtain ⟨h1, h2, h3, h4⟩ := G.vis h
  obtain ⟨t1, t2, t3⟩ := t A W k X G
  refine ⟨pgs_cons (pg_fld h1 h2 h3 h4) t1 rfl, congrArg (· + 1) t2, ?_⟩
  show List.findIdx? (·.1) ((false, assign (.Attribute (.Name x p) f pos) X.env) :: assignEach es X.env) = none
  rw [List.findIdx?_cons]
  simp [t3]
theorem sg_len : ∀ {tg : List ISg} {us : List SV} {ρ ρ' : Rho} {M M' : MS}, sgAll tg us ρ M = some (ρ', M') → us.length = tg.length
  | [], [], _, _, _, _, _ => rfl
  | [], _ :: _, _, _, _, _, h => by unfold sgAll at h; cases h
  | .nm i :: tg, [], _, _, _, _, h => by unfold sgAll at h; cases h
  | .at cs o f :: tg, [], _, _, _, _, h => by unfold sgAll at h; cases h
  | .nm i :: tg, u :: us, _, _, _, _, h => by
    unfold sgAll at h
    exact congrArg (· + 1) (sg_len h)
  | .at cs o f :: tg, u :: us, _, _, _, _, h => by
    unfold sgAll at h
    split at h
    · split at h
      · split at h
        · obtain ⟨_, h⟩ := if_inv h
          obtain ⟨M1, _, h⟩ := bind_inv h
          exact congrArg (· + 1) (sg_len h)
        · cases h
      · cases h
    · cases h
theorem sg_run {k : Nat} {X : Cx} (G : Good T A W C k X) : ∀ {tg : List ISg} {us : List SV} {ρ ρ' : Rho} {M M' : MS} {ν : List Addr} {g : DL.G} {ρR : Rho} {svs : List SV} {xs : List V} {σ : L2.St} {H : Hp} {N : L2.St → Hp → Prop}, atOk T tg → sgAll tg us ρ M = some (ρ', M') → Cfg ν M g → RelR ν ρ ρR → RelL ν us svs → Sim W ρR g σ H → RepSs W H g svs xs →
    (∀ ρ2 g2 ν2 σ' H', RelR ν2 ρ' ρ2 → Sim W ρ2 g2 σ' H' → Ext g H g2 H' → Nxt ν M g ν2 M' g2 → N σ' H') → tgA W.K tg xs σ H N
  | [], [], ρ, ρ', M, M', ν, g, ρR, _, xs, σ, H, N, _, h, Cf, R, .nil, S, rr, q => by
    unfold sgAll at h; cases h
    exact ⟨rr, q _ _ _ _ _ R S (Ext.refl _ _) (Nxt.refl Cf)⟩
  | [], _ :: _, _, _, _, _, _, _, _, _, _, _, _, _, _, h, _, _, _, _, _, _ => by unfold sgAll at h; cases h
  | .nm i :: tg, [], _, _, _, _, _, _, _, _, _, _, _, _, _, h, _, _, _, _, _, _ => by unfold sgAll at h; cases h
  | .at cs o f :: tg, [], _, _, _, _, _, _, _, _, _, _, _, _, _, h, _, _, _, _, _, _ => by unfold sgAll at h; cases h
  | .nm i :: tg, u :: us, ρ, ρ', M, M', ν, g, ρR, _, xs, σ, H, N, ok, h, Cf, R, .cons r rs, S, rr, q => by
    unfold sgAll at h
    obtain ⟨x, xr, rfl, r1, r2⟩ := rr
    exact ⟨x, xr, rfl, sg_run G ok h Cf (pset (show RelP ν (some u) (some _) from r) i R) rs (S.set i r1) r2 q⟩
  | .at cs o f :: tg, u :: us, ρ, ρ', M, M', ν, g, ρR, _, xs, σ, H, N, ok, h, Cf, R, .cons (b := su) r rs, S, rr, q => by
    unfold sgAll at h
    split at h
    · rename_i ov hov
      split at h
      · rename_i n
        split at h
        · rename_i c fs en
          obtain ⟨hc, h⟩ := if_inv h
          obtain ⟨M1, hp, h⟩ := bind_inv h
          obtain ⟨n', c', fs', e1, en', hl, rfl⟩ := fldPut_inv hp
          cases e1
          rw [en] at en'
          cases en'
          obtain ⟨s, hs, rso⟩ := relP_some R hov
          obtain ⟨a, w, rfl, ha, hw, hr⟩ := Cf.obj en rso
          obtain ⟨gs, rfl, rg⟩ := relO_ins hr
          obtain ⟨vx, h1, h2⟩ := S.get o _ hs
          cases (show vx = .ref a from h2)
          obtain ⟨dx, vs, hx, rx⟩ := S.ok a _ hw
          obtain ⟨x, xr, rfl, r1, r2⟩ := rr
          obtain ⟨k1, k2⟩ := fldB_ok ok.1 hc
          have ex4 : Ext g H (gset g a (.ins c (putS f su gs))) (upd H a (.ins (W.cl c) dx (putF f x vs))) := Ext.mut hw
          have k4 : GOk W (upd H a (.ins (W.cl c) dx (putF f x vs))) (gset g a (.ins c (putS f su gs))) := S.ok.mut hw ⟨dx, _, upd_same, (RepSf.put r1 rx).ext ex4⟩
          have N1 := Nxt.put Cf en ha (show RelO ν (.ins c (putS f u fs)) (.ins c (putS f su gs)) from ⟨rfl, relF_put r rg⟩)
          refine ⟨x, xr, rfl, a, W.cl c, dx, vs, h1, hx, (G.fct.cls c k1).c, G.fct.fld c f k2, by rw [← rx.length, ← plen rg]; exact hl, ?_⟩
          exact sg_run G ok.2 h N1.cfg R rs (S.ext k4 ex4) (r2.ext ex4) fun ρ2 g2 ν2 σ' H' q1 q2 q3 q4 => q ρ2 g2 ν2 σ' H' q1 q2 (ex4.trans q3) (N1.trans q4)
        · cases h
      · cases h
    · cases h
theorem s1_unpA {kt : Nat} (hg : GA C T es tg) (ok : atOk T tg) (hs : swapsWith e (some (.Tuple es kt pt)) pos.line (envS C.sc) = pure false) (hw : swappedStores [.Tuple es kt pt] e (envS C.sc) = pure none) (he : SE T A W C e re) : S1 T A W C (.Assign [.Tuple es kt pt] e pos) (.unpA tg re) := fun k X G ρ M fl ρ' M' h0 ν g ρR Cf R => by
  unfold evS at h0
  obtain ⟨⟨v, M1⟩, e1, e2⟩ := bind_inv h0
  dsimp only at e2
  split at e2
  · rename_i ds
    obtain ⟨⟨ρ1, M2⟩, e3, e4⟩ := bind_inv e2
    cases e4
    obtain ⟨g1, g2, g3⟩ := hg A W k X G
    intro σ H S D kk
    have hs' : swapsWithSole [.Tuple es kt pt] e pos.line X.env = pure false := by
      show swapsWith e (some (.Tuple es kt pt)) pos.line X.env = _
      rw [sw_env, G.sc]; exact hs
    have hw' : swappedStores [.Tuple es kt pt] e X.env = pure none := by rw [st_env, G.sc]; exact hw
    refine t1_of (ps_asg pe_s (pg_tup G.calm g1 g2 g3) hs' hw' rfl) ?_
    refine he k X G ρ M _ _ e1 ν g ρR Cf R σ H S _ fun vv H1 ⟨sv, gg, k1, ex1, rr, ν1, N1, r1⟩ => ?_
    cases relS_d r1
    obtain ⟨a, xs, rfl, h1, h2⟩ := rr
    have hl := sg_len e3
    rw [G.hK]
    refine ⟨a, xs, rfl, h1.sq, by rw [← h2.length, ← hl, List.length_map], ?_⟩
    exact sg_run G ok e3 N1.cfg (N1.rr R) (relL_dd ds) (S.ext k1 ex1) (reps_to h2) fun ρ2 g2 ν2 σ' H' q1 q2 q3 q4 => kk.nx _ _ ⟨ρ2, g2, q2, ex1.trans q3, rfl, ν2, N1.trans q4, q1⟩
  · cases e2
end
/-! ### a, *b = a list -/
section
variable {prog : Program} {w : World} {A : Around} {E : Value → Shared → Prop} {s : Shared}
theorem star2 {l : Addr} {f : Value} {rest : List Value} {Q : List Value → Shared → Prop} (hl : s.heap.IsList l (f :: rest).toArray) (hh : A.handled = none) (hz : (f :: rest).length ≤ sizeLine)
    (h : ∀ (h' : Heap) (tk : Nat), (∀ b o, s.heap.get? b = some o → h'.get? b = some o) → Q [f, .ref h'.objs.size] { s with heap := h'.push { cls := .type "list", data := .seq rest.toArray }, toks := tk }) : wpAny (model prog w) A (unpackItems (.ref l) 2 (some 1)) Q E s := by
  have hlt : l ≠ s.heap.objs.size := by obtain ⟨o, ho, _⟩ := hl; exact Nat.ne_of_lt (Heap.lt_size ho)
  have hll : l < s.heap.objs.size := by obtain ⟨o, ho, _⟩ := hl; exact Heap.lt_size ho
  have hsz : (f :: rest).toArray.size = rest.length + 1 := by simp
  unfold unpackItems
  refine wpAny_bind ?_
  unfold notIterableAtAll
  refine wpAny_bind (wpAny_specialOf hl.typeIs F.slot_list_iter.lookup ?_)
  refine wpAny_pure ?_
  simp only [Bool.false_eq_true, if_false]
  refine wpAny_bind (wpAny_holding (wpAny_pyIter_list hl ?_))
  refine wpAny_bind (wpAny_holding (PySem.W.kun_draw hlt 1 0 _ _ ⟨_, Heap.get?_push_size _ rfl, rfl, rfl⟩ (hl.push _) (by omega) fun h₁ hit₁ hs₁ => ?_))
  have hl₁ : h₁.IsList l (f :: rest).toArray := (hl.push _).extBut hs₁.extBut hlt
  rw [Nat.zero_add] at hit₁
  have hit₁' := hit₁
  obtain ⟨oi, hoi, _⟩ := hit₁'
  have hl₁' := hl₁
  obtain ⟨ol, hol, _⟩ := hl₁'
  rw [List.drop_zero]
  have e1 : ((f :: rest).toArray.toList).take 1 = [f] := by simp
  have e2 : ((f :: rest).toArray.toList).drop 1 = rest := by simp
  rw [e1]
  rw [if_neg (show ¬ ([f].length < 1) by simp)]
  refine wpAny_bind (wpAny_holding (PySem.W.kun_collect (s := { s with heap := h₁ }) (T := "list_iterator") (.inr (.inr (.inl rfl))) (PySem.Walks.list (A := A.in1) hh s.heap.objs.size l hlt (f :: rest).toArray) (fun j u st => st.1.typeIs) (k := 1) (by omega) ⟨hit₁, hl₁⟩ (Heap.lt_size hoi) (Heap.lt_size hol) (fun h₂ tk hk => ?_) (by rw [hsz]; exact hz)))
  rw [e2]
  show wpAny _ _ (if rest.length < 0 then _ else _) _ _ _
  rw [if_neg (by omega)]
  show wpAny _ _ (newList (rest.take (rest.length - 0)) >>= fun d => pure ([f] ++ [d] ++ rest.drop (rest.length - 0))) _ _ _
  rw [Nat.sub_zero, List.take_length, List.drop_length]
  have he : Heap.ExtBut s.heap.objs.size s.heap h₂ := fun b o hb e => hk b o hb (hs₁.extBut b o hb (Heap.get?_push_of_some _ e))
  refine wpAny_bind (wpAny_newList (wpAny_pure ?_) (by simp at hz; omega))
  exact h h₂ tk (fun b o e => he b o (Nat.ne_of_lt (Heap.lt_size e)) e)
end
end EV

set_option autoImplicit false
/-! a starred target, a start of enumerate, comprehensions over a dict -/
namespace EV
open PySem PySem.Spec PyProof.Rows L2 DL
/-! ### a, *b = a list -/
def gStar (K : PySem.W.Frag) (i j : Nat) : TG := fun v σ H Q => ∃ a x xs, v = .ref a ∧ SqL K H a (x :: xs) ∧ ∀ p, H p = none → Q ((σ.set i (some x)).set j (some (.ref p))) (upd H p (.lst xs))
theorem pg_star {X : Cx} {i j k : Nat} {x y : Str} {px py ps pos : Pos} (hc : X.calm = true) (h1 : PG X (.Name x px) (gName i)) (h2 : PG X (.Name y py) (gName j)) : PG X (.Tuple [.Name x px, .Starred (.Name y py) ps] k pos) (gStar X.K i j) := by
  refine ⟨fun pins s σ H v u Q I r hw => ?_⟩
  obtain ⟨a, x0, xs, rfl, hq, hw⟩ := hw
  cases r
  obtain ⟨its, rv, p, hz⟩ := I.list hq
  cases rv with
  | @cons _ f _ rest r1 rr =>
    rw [assign_Tuple]
    refine wpAny_bind (wpAny_standAt ?_)
    show wpAny _ _ (holding [.ref a] (unpackItems (.ref a) 2 (some 1)) >>= fun vs => assignInOrder [assign (.Name x px) X.env, assign (.Name y py) X.env] vs) _ _ _
    refine wpAny_bind (wpAny_holding (star2 p.isList (I.ok.hd hc) ?_ fun h' tk hk => ?_))
    · rw [List.length_cons, ← rr.length]; exact hz
    have I1 : Inv X pins σ H { s with heap := h', toks := tk } := I.kept hk
    have hp : H h'.objs.size = none := I1.hok.fresh (Nat.le_refl _)
    have I2 : Inv X pins σ (upd H h'.objs.size (.lst xs)) { s with heap := h'.push { cls := .type "list", data := .seq rest.toArray }, toks := tk } := I1.laid (a := h'.objs.size) (o := .lst xs) (t' := tk) (fun b u e => Heap.get?_push_of_some _ e) (Nat.le_refl _) ⟨by rw [List.length_cons] at hz; omega, rest, 0, rr, Heap.get?_push_size _ rfl⟩
    exact (pgs_cons h1 (pgs_cons h2 pgs_nil)).run pins _ σ _ [x0, .ref h'.objs.size] [f, .ref h'.objs.size] Q I2 (.cons r1 (.cons rfl .nil)) ⟨x0, _, rfl, .ref h'.objs.size, [], rfl, rfl, hw _ hp⟩
section
variable {T : Tab} {A : Adr} {W : Wd} {C : CC} {pos p apos px py ps pt : Pos} {a b e o : Expr} {ra rb re ro : IE} {x y : Str} {i j : Nat}
theorem s1_unpS {kt : Nat} (hx : tgB C i x = true) (hy : tgB C j y = true) (hs : swapsWith e (some (.Tuple [.Name x px, .Starred (.Name y py) ps] kt pt)) pos.line (envS C.sc) = pure false) (hw : swappedStores [.Tuple [.Name x px, .Starred (.Name y py) ps] kt pt] e (envS C.sc) = pure none) (he : SE T A W C e re) : S1 T A W C (.Assign [.Tuple [.Name x px, .Starred (.Name y py) ps] kt pt] e pos) (.unpS i j re) := fun k X G ρ M fl ρ' M' h0 ν g ρR Cf R => by
  unfold evS at h0
  obtain ⟨⟨v, M1⟩, e1, e2⟩ := bind_inv h0
  dsimp only at e2
  split at e2
  · rename_i d ds
    cases e2
    obtain ⟨a1, a2, a3⟩ := tgB_ok G hx
    obtain ⟨b1, b2, b3⟩ := tgB_ok G hy
    intro σ H S D kk
    have hs' : swapsWithSole [.Tuple [.Name x px, .Starred (.Name y py) ps] kt pt] e pos.line X.env = pure false := by
      show swapsWith e (some (.Tuple [.Name x px, .Starred (.Name y py) ps] kt pt)) pos.line X.env = _
      rw [sw_env, G.sc]; exact hs
    have hw' : swappedStores [.Tuple [.Name x px, .Starred (.Name y py) ps] kt pt] e X.env = pure none := by rw [st_env, G.sc]; exact hw
    refine t1_of (ps_asg pe_s (pg_star G.calm (pg_name G.nd a1 a2 a3) (pg_name G.nd b1 b2 b3)) hs' hw' rfl) ?_
    refine he k X G ρ M _ _ e1 ν g ρR Cf R σ H S _ fun vv H1 ⟨sv, g1, k1, ex1, rr, ν1, N1, r1⟩ => ?_
    cases relS_d r1
    obtain ⟨ad, xs, rfl, h1, h2⟩ := rr
    obtain ⟨x0, xr, rfl, h3, h4⟩ := h2
    rw [G.hK]
    refine ⟨ad, x0, xr, rfl, h1.sq, fun q hq => ?_⟩
    have ex2 : Ext g1 H1 g1 (upd H1 q (.lst xr)) := Ext.new hq
    have k2 : GOk W (upd H1 q (.lst xr)) g1 := k1.new hq
    have S2 : Sim W ρR g1 σ (upd H1 q (.lst xr)) := S.ext k2 (ex1.trans ex2)
    have q1 : RepS W (upd H1 q (.lst xr)) g1 (.d d) x0 := Rep.ext ex2 _ _ h3
    have q2 : RepS W (upd H1 q (.lst xr)) g1 (.d (.lst ds)) (.ref q) := ⟨q, xr, rfl, ⟨upd_same, k1.free hq⟩, Reps.ext ex2 _ _ h4⟩
    exact kk.nx _ _ ⟨_, g1, (S2.set i q1).set j q2, ex1.trans ex2, rfl, ν1, N1, pset (show RelP ν1 (some (.d (.lst ds))) (some (.d (.lst ds))) from rfl) j (pset (show RelP ν1 (some (.d d)) (some (.d d)) from rfl) i (N1.rr R))⟩
  · cases e2
end
/-! ### enumerate(e, start=c) -/
theorem callWith_typeK {M : Model} {A : Around} {E : Value → Shared → Prop} {s : Shared} {pos : Pos} {T : String} {args : List (Bool × Sem Value)} {kws : List (Option Str × Sem Value)} {Q : Value → Shared → Prop} (hplain : (args.any (·.1) || kws.any (·.1.isNone)) = false)
    (h : wpAny M A (evalArgs (.type T) true args kws) (fun a s₁ => wpAny M A (call (.type T) a.pos a.kw) Q E s₁) E s) : wpAny M A (callWith pos (.type T) [] args kws) Q E s := by
  unfold callWith
  refine wpAny_bind (wpAny_holding (wpAny_mono h (fun a s₁ h₁ => wpAny_bind (wpAny_standAt ?_)) fun _ _ x => x))
  simp only [hplain]
  refine wpAny_bind (wpAny_pure ?_)
  exact wpAny_bind (wpAny_mono h₁ (fun r s₂ hr => wpAny_bind (wpAny_holding (wpAny_point (wpAny_pure hr)))) fun _ _ x => x)
section
variable {X : Cx} {tup : Bool} {c : Int} {elts : List Expr} {kk j : Nat} {tpos cp kp : Pos}
theorem pi_enS {e : Expr} {ta : TA} {p pos : Pos} (hg : Gl X "enumerate") (hm : X.mg "enumerate" = none) (hc : 0 ≤ c ∧ c < 1000) (ha : PA X [e] ta) (hs : starEach [e] X.env = [(false, eval e X.env)]) :
    PI X (.Tuple elts kk tpos) (.Call (.Name "enumerate" p) [e] [⟨some "start", .Constant (.int c) j cp, kp⟩] pos) (iEn X.K tup c ta) := by
  refine ⟨fun pins s σ H R I h => ?_⟩
  refine wpAny_Call_Name_kw (ld_blt I hg hm boot_enumerate (callWith_typeK (by rw [hs]; rfl) (evalArgs_kw2 rfl (thn (ha.run pos pins s σ H _ I h) fun us s1 ⟨vs, H1, I1, r1, a, xs, ex, hq, q⟩ => ?_) hs)))
  subst ex
  cases r1 with
  | cons r rr =>
    cases rr
    cases r
    refine kwAll_cons (thn ((pe_int (X := X) (i := c) (j := j) (pos := cp)).run pins s1 σ H1 (fun v H2 => v = .int c ∧ H2 = H1) I1 ⟨rfl, rfl⟩) fun v s2 ⟨x, H2, I2, r2, e1, e2⟩ => kwAll_nil ?_)
    subst e1 e2
    obtain ⟨t, rfl⟩ := (show ∃ t, v = .int c t from r2)
    obtain ⟨its, rv, p'⟩ := sqX_is I2 hq
    obtain ⟨o, B, hit⟩ := beginsX tup a its.toArray
    exact enum_begins_start B p' (by omega) (by omega) fun h' he ho hsz hk => en_pie I2 he (hit _ _ ho) hk q
end
section
variable {T : Tab} {A : Adr} {W : Wd} {C : CC} {e a b : Expr} {ra rb : IE} {p pos tpos cp kp : Pos} {elts : List Expr} {kk j : Nat}
theorem si_enS {c : Int} (hc : 0 ≤ c ∧ c < 1000) (hg : globB C "enumerate" = true) (hf : ("enumerate" : Str) ∈ T.free) (hn : nsB a = true) (h : SE T A W C a ra) : SI T A W C (.Tuple elts kk tpos) (.Call (.Name "enumerate" p) [a] [⟨some "start", .Constant (.int c) j cp, kp⟩] pos) (.enum c ra) := fun k X G ρ M is M' he ν g ρR Cf R => by
  unfold evI at he
  obtain ⟨⟨x, M1⟩, h1, h2⟩ := bind_inv he
  obtain ⟨gl, hd⟩ := G.gl hg
  have hm := G.fct.free _ hf
  dsimp only at h2
  split at h2
  · rename_i d
    obtain ⟨l, h3, h4⟩ := map_inv h2
    cases h4
    cases d <;> first | (cases h3; done) | skip
    · cases h3
      refine ⟨_, pi_enS (tup := false) gl hm hc (pa_cons pe_s pa_nil (star_ns hn)) (star_ns hn), fun σ H S R' q => ?_⟩
      refine h k X G ρ M _ _ h1 ν g ρR Cf R σ H S _ fun vv H1 ⟨sv, g1, k1, e1, rr, ν1, N1, r1⟩ => ?_
      cases relS_d r1
      obtain ⟨ad, xs, rfl, h5, h6⟩ := rr
      rw [G.hK]
      exact ⟨ad, xs, rfl, h5.sq, q _ _ g1 ν1 N1 k1 e1 (it_en (tup := false) fun g H ex kk => ⟨xs, (h5.ext ex).sq, Reps.ext ex _ _ h6⟩)⟩
    · cases h3
      refine ⟨_, pi_enS (tup := true) gl hm hc (pa_cons pe_s pa_nil (star_ns hn)) (star_ns hn), fun σ H S R' q => ?_⟩
      refine h k X G ρ M _ _ h1 ν g ρR Cf R σ H S _ fun vv H1 ⟨sv, g1, k1, e1, rr, ν1, N1, r1⟩ => ?_
      cases relS_d r1
      obtain ⟨ad, xs, rfl, h5, h6⟩ := rr
      rw [G.hK]
      exact ⟨ad, xs, rfl, h5.sq, q _ _ g1 ν1 N1 k1 e1 (it_en (tup := true) fun g H ex kk => ⟨xs, (h5.ext ex).sq, Reps.ext ex _ _ h6⟩)⟩
    · cases h3
      refine ⟨_, pi_enS (tup := false) gl hm hc (pa_cons pe_s pa_nil (star_ns hn)) (star_ns hn), fun σ H S R' q => ?_⟩
      refine h k X G ρ M _ _ h1 ν g ρR Cf R σ H S _ fun vv H1 ⟨sv, g1, k1, e1, rr, ν1, N1, r1⟩ => ?_
      cases relS_d r1
      obtain ⟨ad, xs, rfl, h5, h6⟩ := rr
      rw [G.hK]
      exact ⟨ad, xs, rfl, h5.sq, q _ _ g1 ν1 N1 k1 e1 (it_en (tup := false) fun g H ex kk => ⟨xs, (h5.ext ex).sq, Reps.ext ex _ _ h6⟩)⟩
  · cases h2
end
/-! ### [.. for k in o.f], o.f a dict -/
def DbOk (T : Tab) (A : Adr) (W : Wd) (C : CC) (vs : List Nat) (j : Nat) (cs : List Nat) (o : Nat) (f : Str) (e : Expr) (b : IDb) : Prop := ∀ k X, Good T A W C k X → ∀ (kvs : List (Key × SV)) (key : Key) (ρ : Rho) (t : Bool) (σ : L2.St) (H : Hp) (an d : Addr) (c : Nat) (dx : Addr) (fs : List (Str × V)) (od : Obj) (xs : List (Key × V)) (Q : VK), evDb kvs key ρ b = some t → (∀ i w, vs.contains i = false → intAt ρ i = some w → σ[i]? = some (some (.int w))) → σ[j]? = some (some (kV key)) → σ[o]? = some (some (.ref an)) → H an = some (.ins (W.cl c) dx fs) → cs.contains c = true → fs.lookup f = some (.ref d) → H d = some (.frz od (.dK xs)) → (∀ z, intS (valS kvs key) = some z → valV xs key = some (.int z)) → Q (.bl t) H → tS X e σ H Q
theorem pc_I {X : Cx} {op : COp} {a b : Expr} {ta tb : TE} {z w : Int} {t : Bool} (h : cmpI op z w = some t) (ha : PE X a ta) (hb : PE X b tb) : ∃ F : Int → Int → Bool, PC X (copOf op) a b (tCmp F ta tb) ∧ F z w = t := by
  cases op <;> first | (cases h; done) | skip
  · cases h; exact ⟨_, pc_lt ha hb, rfl⟩
  · cases h; exact ⟨_, pc_le ha hb, rfl⟩
  · cases h; exact ⟨_, pc_gt ha hb, rfl⟩
  · cases h; exact ⟨_, pc_ge ha hb, rfl⟩
section
variable {T : Tab} {A : Adr} {W : Wd} {C : CC} {vs cs : List Nat} {i j o : Nat} {f x y s : Str} {e1 e2 : Expr} {b1 b2 : IDb} {p1 p2 p3 p4 p5 pos : Pos} {op : COp}
theorem db_cmpK (hy : nameB C j y = true) (hx : nameB C i x = true) (hi : vs.contains i = false) : DbOk T A W C vs j cs o f (.Compare (.Name y p1) [copOf op] [.Name x p2] pos) (.cmpK op i) := fun k X G kvs key ρ t σ H an d c dx fs od xs Q he hS hj ho ha hc hl hd hv q => by
  unfold evDb at he
  split at he
  · rename_i z
    obtain ⟨w, h1, h2⟩ := bind_inv he
    obtain ⟨a1, a2, a3, a4⟩ := G.vis hy
    obtain ⟨c1, c2, c3, c4⟩ := G.vis hx
    obtain ⟨F, hp, hF⟩ := pc_I h2 (pe_var (pos := p1) a1 a2 a3 a4) (pe_var (pos := p2) c1 c2 c3 c4)
    refine ts_of (pe_cmp hp (mark_eq rfl)) ⟨_, hj, _, hS i w hi h1, z, w, rfl, rfl, ?_⟩
    show Q (.bl (F z w)) H
    rw [hF]; exact q
  · cases he
theorem db_cmpV (hf : fldB T cs f = true) (hs : nameB C o s = true) (hy : nameB C j y = true) (hx : nameB C i x = true) (hi : vs.contains i = false) : DbOk T A W C vs j cs o f (.Compare (.Subscript (.Attribute (.Name s p1) f p2) (.Name y p3) p4) [copOf op] [.Name x p5] pos) (.cmpV op i) := fun k X G kvs key ρ t σ H an d c dx fs od xs Q he hS hj ho ha hc hl hd hv q => by
  unfold evDb at he
  obtain ⟨z, h0, he⟩ := bind_inv he
  obtain ⟨w, h1, h2⟩ := bind_inv he
  obtain ⟨a1, a2, a3, a4⟩ := G.vis hy
  obtain ⟨c1, c2, c3, c4⟩ := G.vis hx
  obtain ⟨d1, d2, d3, d4⟩ := G.vis hs
  obtain ⟨k1, k2⟩ := fldB_ok hf hc
  obtain ⟨F, hp, hF⟩ := pc_I h2 (pe_dget (pos := p4) G.hu1 (pe_fld (pos := p2) (f := f) (pe_var (pos := p1) d1 d2 d3 d4) (base_eq rfl)) (pe_var (pos := p3) a1 a2 a3 a4) (nosl_of rfl)) (pe_var (pos := p5) c1 c2 c3 c4)
  refine ts_of (pe_cmp hp (mark_eq rfl)) ⟨_, ho, an, W.cl c, dx, fs, .ref d, rfl, ha, ?_, ?_, hl, _, hj, d, .int z, rfl, .inl ⟨xs, key, .inr ⟨od, hd⟩, rfl, (hv z h0).symm⟩, _, hS i w hi h1, z, w, rfl, rfl, ?_⟩
  · rw [G.hK]; exact (G.fct.cls c k1).c
  · rw [G.hK]; exact G.fct.fld c f k2
  · show Q (.bl (F z w)) H
    rw [hF]; exact q
theorem db_and (h1 : DbOk T A W C vs j cs o f e1 b1) (h2 : DbOk T A W C vs j cs o f e2 b2) : DbOk T A W C vs j cs o f (.BoolOp .And [e1, e2] pos) (.and b1 b2) := fun k X G kvs key ρ t σ H an d c dx fs od xs Q he hS hj ho ha hc hl hd hv q => by
  unfold evDb at he
  obtain ⟨t1, q1, q2⟩ := bind_inv he
  refine ts_of (pe_and pe_s (pe_one pe_s)) ?_
  refine h1 k X G kvs key ρ t1 σ H an d c dx fs od xs _ q1 hS hj ho ha hc hl hd hv ⟨t1, rfl, ?_⟩
  cases t1 with
  | true =>
    rw [if_pos rfl] at q2 ⊢
    exact h2 k X G kvs key ρ t σ H an d c dx fs od xs _ q2 hS hj ho ha hc hl hd hv q
  | false =>
    rw [if_neg (by decide)] at q2 ⊢
    cases q2
    exact q
end
end EV

set_option autoImplicit false
/-! comprehensions over a dict; class methods; makes by a local name -/
namespace EV
open PySem PySem.Spec PyProof.Rows L2 DL
theorem intAt_inv {ρ : Rho} {i : Nat} {w : Int} (h : intAt ρ i = some w) : ρ[i]? = some (some (.d (.int w))) := by
  unfold intAt at h
  split at h
  · rename_i w' e; cases h; exact e
  · cases h
theorem intS_inv {o : Option SV} {w : Int} (h : intS o = some w) : o = some (.d (.int w)) := by
  unfold intS at h
  split at h
  · cases h; rfl
  · cases h
theorem yes_if {P Q : Prop} (h : P) : if true = true then P else Q := by rw [if_pos rfl]; exact h
theorem bls_rep {W : Wd} {H : Hp} {g : G} : ∀ ts : List Bool, Reps W H g (ts.map D.bl) (ts.map V.bl)
  | [] => rfl
  | t :: ts => ⟨.bl t, _, rfl, rfl, bls_rep ts⟩
section
variable {T : Tab} {A : Adr} {W : Wd} {C : CC} {vs cs : List Nat} {j o : Nat} {f y s : Str} {elt : Expr} {b : IDb} {scope : Scope} {own : List (Str × Nat)} {py ps pf pos : Pos}
theorem se_lcD (hb : blkC C.N C.sc scope own = true) (hvs : vs = own.map (·.2)) (hj : vs.contains j = true) (ho : vs.contains o = false) (hy : tgB (C.blk scope) j y = true) (hs : nameB C o s = true) (hf : fldB T cs f = true) (hd : DbOk T A W (C.blk scope) vs j cs o f elt b) :
    SE T A W C (.ListComp elt [⟨.Name y py, .Attribute (.Name s ps) f pf, [], 0⟩] scope pos) (.lcD vs j cs f o b) := fun k X G ρ M v M' he ν g ρR Cf R => by
  unfold evE at he
  split at he
  · rename_i n hn
    split at he
    · rename_i c fs en
      obtain ⟨hc, he⟩ := if_inv he
      obtain ⟨dv, hl, he⟩ := bind_inv he
      split at he
      · rename_i m
        split at he
        · rename_i kvs em
          obtain ⟨⟨hk, hjl⟩, he⟩ := if_inv he
          obtain ⟨ts, ht, he⟩ := bind_inv he
          obtain ⟨rfl, rfl⟩ := ret_inv he
          intro σ H S Q' q'
          have ok : BlkOk X.N X.env.scope scope own := by rw [G.N, G.sc]; exact blkOk_by hb
          obtain ⟨n1, n2, n3, n4⟩ := G.vis hs
          obtain ⟨k1, k2⟩ := fldB_ok hf hc
          obtain ⟨sn, hsn, rsn⟩ := relP_some R hn
          obtain ⟨an, u, rfl, han, hu, hr⟩ := Cf.obj en rsn
          obtain ⟨gs, rfl, rg⟩ := relO_ins hr
          obtain ⟨vn, hσo, rvn⟩ := S.get o _ hsn
          cases (show vn = .ref an from rvn)
          obtain ⟨dx, xf, hxa, rxf⟩ := S.ok an _ hu
          have hg2 : ∃ dm, gs.lookup f = some (.ob dm) ∧ ν[m]? = some dm := by
            have go : ∀ {a b : List (Str × SV)}, RelF ν a b → a.lookup f = some (.ob m) → ∃ dm, b.lookup f = some (.ob dm) ∧ ν[m]? = some dm := fun {a b} r => by
              induction r with
              | nil => intro h; cases h
              | @cons p q _ _ h t ih =>
                intro hh
                obtain ⟨pk, pv⟩ := p
                obtain ⟨qk, qv⟩ := q
                cases (show pk = qk from h.1)
                rw [List.lookup_cons] at hh ⊢
                cases z : f == pk with
                | true =>
                  rw [z] at hh
                  cases hh
                  obtain ⟨dm, e1, e2⟩ := relS_ob h.2
                  cases (show qv = .ob dm from e1)
                  exact ⟨dm, rfl, e2⟩
                | false => rw [z] at hh; exact ih hh
            exact go rg hl
          obtain ⟨dm, hgl, hνm⟩ := hg2
          obtain ⟨xd, hxl, rxd⟩ := RepSf.look rxf hgl
          cases (show xd = .ref dm from rxd)
          obtain ⟨dm', u2, e0, hdm, hu2, hr2⟩ := Cf.obj (s := .ob dm) em hνm
          cases e0
          cases u2 <;> first | exact False.elim hr2 | skip
          rename_i ds
          have hr2 : RelF ν kvs ds := hr2
          obtain ⟨xs, hxs, rxs⟩ := S.ok dm _ hu2
          have nad : an ≠ dm := fun z => by rw [z, hxs] at hxa; cases hxa
          have hpg : Blk X scope fun Y => PG Y (.Name y py) (gName j) := fun s' H' D cl fp => sg_nm hy T A W k _ (G.blk scope s' H' D cl fp)
          refine ts_of (pe_lock (pe_lc G.calm G.nd (pi_keys (tg := .Name y py) (pe_fld (pos := pf) (f := f) (pe_var (pos := ps) n1 n2 n3 n4) (base_eq rfl))) ok hpg (pts_s (ifs := [])) pe_el (fold_eq rfl))) ?_
          refine ⟨dm, .dK xs, hxs, trivial, fun od => ?_⟩
          have Ha : upd H dm (.frz od (.dK xs)) an = some (.ins (W.cl c) dx xf) := by rw [upd_ne nad]; exact hxa
          refine ⟨.ref an, hσo, an, W.cl c, dx, xf, .ref dm, rfl, Ha, by rw [G.hK]; exact (G.fct.cls c k1).c, by rw [G.hK]; exact G.fct.fld c f k2, hxl, dm, od, rfl, .inl ⟨xs, upd_same, fun L hL => ?_⟩⟩
          have Ld : L ≠ dm := fun z => by rw [z, upd_same] at hL; cases hL
          have La : L ≠ an := fun z => by rw [z, Ha] at hL; cases hL
          have HL : H L = none := by rw [upd_ne Ld] at hL; exact hL
          have pk := mapM_inv ht
          have len1 : kvs.length = ts.length := plen pk
          have len2 : kvs.length = xs.length := (plen hr2).trans (plen (sf_pair rxs))
          refine ⟨fun i m H' => m + i = xs.length ∧ H' = upd (upd H dm (.frz od (.dK xs))) L (.lst ((ts.take i).map V.bl)), ⟨xs.length, rfl, rfl⟩, ?_⟩
          rintro i m' H' ⟨hm, rfl⟩
          have hd' : upd (upd H dm (.frz od (.dK xs))) L (.lst ((ts.take i).map V.bl)) dm = some (.frz od (.dK xs)) := by rw [upd_ne Ld.symm]; exact upd_same
          cases m' with
          | zero =>
            refine .inl ⟨⟨hd', by omega⟩, hd', ?_⟩
            have eH : upd (upd (upd H dm (.frz od (.dK xs))) L (.lst ((ts.take i).map V.bl))) dm (.dK xs) = upd H L (.lst ((ts.take i).map V.bl)) := by
              funext z
              by_cases z1 : z = dm
              · rw [z1, upd_same, upd_ne Ld.symm]; exact hxs.symm
              · rw [upd_ne z1]
                by_cases z2 : z = L
                · rw [z2, upd_same, upd_same]
                · rw [upd_ne z2, upd_ne z2, upd_ne z1]
            rw [eH]
            have et : ts.take i = ts := List.take_of_length_le (by omega)
            rw [et]
            exact q' _ _ ⟨.d (.lst (ts.map D.bl)), g, S.ok.new HL, Ext.new HL, ⟨L, _, rfl, ⟨upd_same, S.ok.free HL⟩, bls_rep ts⟩, ν, Nxt.refl Cf, rfl⟩
          | succ m' =>
            refine .inr ⟨⟨hd', by omega⟩, _, fun H2 p => ⟨m', Nat.lt_succ_self m', p⟩, fun x H2 ⟨e2, key, v0, hkv, ex⟩ => ?_⟩
            subst e2 ex
            have jm : j ∈ own.map (·.2) := by rw [← hvs]; simpa using hj
            refine ⟨by rw [wipe_put jm, wipe_wipe], ?_⟩
            show tEl X scope elt _ _ _
            obtain ⟨t, htt⟩ : ∃ t, ts[i]? = some t := ⟨ts[i]'(by omega), List.getElem?_eq_getElem _⟩
            have hkk : ∃ v1, kvs[i]? = some (key, v1) := by
              have hi : i < kvs.length := by omega
              obtain ⟨q, h1, h2⟩ := pget (sf_pair rxs) (i := i) (List.getElem?_eq_getElem (by rw [← plen hr2]; exact hi))
              rw [hkv] at h1; cases h1
              obtain ⟨q2, h3, h4⟩ := pget hr2 (i := i) (List.getElem?_eq_getElem hi)
              refine ⟨(kvs[i]).2, ?_⟩
              rw [List.getElem?_eq_getElem hi]
              have e1 : (kvs[i]).1 = key := by
                have e5 : q2 = ds[i]'(by rw [← plen hr2]; exact hi) := by
                  rw [List.getElem?_eq_getElem (by rw [← plen hr2]; exact hi)] at h3
                  exact (Option.some.inj h3).symm
                rw [h4.1, e5, h2.1]
              rw [← e1]
            obtain ⟨v1, hkk⟩ := hkk
            obtain ⟨t', ht1, ht2⟩ := pget pk hkk
            rw [htt] at ht1; cases ht1
            have wl : ∀ {i' : Nat} {w : V}, vs.contains i' = false → σ[i']? = some (some w) → ((L2.wipe σ (own.map (·.2))).set j (some (kV key)))[i']? = some (some w) := fun {i' w} h1 h2 => by
              have nm : i' ∉ own.map (·.2) := by rw [← hvs]; simpa using h1
              rw [List.getElem?_set_ne (fun z => nm (by rw [← z]; exact jm)), wipe_get, if_neg nm]
              exact h2
            have lσ : j < (L2.wipe σ (own.map (·.2))).length := by
              rw [L2.wipe_length, ← S.len, ← plen R]; exact hjl
            intro s' Hs D cl fp
            refine hd k _ (G.blk scope s' Hs D cl fp) kvs key ρ t _ _ an dm c dx xf od xs _ ht2 (fun i' w h1 h2 => ?_) ?_ (wl ho hσo) ?_ hc hxl hd' (fun z hz => ?_) ⟨_, upd_same, ?_, ?_, ?_⟩
            · obtain ⟨s2, hs2, rs2⟩ := relP_some R (intAt_inv h2)
              cases relS_d rs2
              obtain ⟨v2, hv2, rv2⟩ := S.get i' _ hs2
              cases (show v2 = .int w from rv2)
              exact wl h1 hv2
            · rw [List.getElem?_set_self lσ]
            · rw [upd_ne La.symm]; exact Ha
            · obtain ⟨sv, q1, q2⟩ := vl_some hr2 (show vl kvs key = some (.d (.int z)) from intS_inv hz)
              cases relS_d q2
              obtain ⟨vv, q3, q4⟩ := vl_some (sf_pair rxs) q1
              cases (show vv = .int z from q4)
              exact q3
            · rw [List.length_map, List.length_take, sizeLine_eq]; omega
            · omega
            · rw [upd_upd]
              have e3 : ts.take (i + 1) = ts.take i ++ [t] := by
                rw [List.take_add_one, htt]; rfl
              rw [e3, List.map_append]; rfl
        · cases he
      · cases he
    · cases he
  · cases he
end
/-! ### C.m(e, ..) -/
section
variable {W : Wd} {X : Cx} {g : G} {ρ : Rho} {Q : QE} {k n : Nat} {f p : Addr} {fd : FuncData} {ps : List Str} {S : SpD} {o e : Expr} {es : List Expr} {m : Str} {pos apos : Pos} {mc : Value}
theorem we_cmeth {c : Nat} {dsv : List SV} {dvs : List V} {ds : List Value} {pl : Sem Bool} (r : ClX.CRead X.K (W.cl c) mc) (hm : ClX.CMet X.K (W.cl c) mc m p f) (F : FnOk X.prog X.w X.K X.mg X.base CX0 k f fd ps (liftSp W n S)) (hr : Room k X.A) (hb : Binds X.K fd ps ds) (hd : Vals dvs ds) (hds : DefV W dsv dvs)
    (h : WE X W o ρ g fun sv g1 => sv = .d (.cls c) ∧ WA X W (e :: es) ρ g1 fun svs g2 => svs.length + dsv.length + 1 = n ∧ S (.d (.cls c) :: (svs ++ dsv)) g2 Q)
    (hst : starEach (e :: es) X.env = (false, eval e X.env) :: starEach es X.env := by rfl) (hpl : (backTo pos (starEach es X.env)).any (·.1) = false := by rfl)
    (ht : eval (.Call (.Attribute o m apos) (e :: es) [] pos) X.env = (do
      let ov ← eval o X.env
      standAt apos.atName
      let (f, first) ← holding [ov] (getMethod ov m pl)
      callWith pos f first (backTo pos (starEach (e :: es) X.env)) (backToKw pos (keywordEach [] X.env))) := by rfl) : WE X W (.Call (.Attribute o m apos) (e :: es) [] pos) ρ g Q := fun σ H S' Q' q' => by
  refine ts_of (ClX.pe_cmeth pe_s r hm (F.raw hb hd) hr pass0 pa_s hst hpl ht) ?_
  refine h σ H S' _ fun v H1 ⟨sv, g1, k1, e1, r1, hsv, h1⟩ => ?_
  subst hsv
  cases (show v = .ref (W.cl c) from r1)
  refine ⟨rfl, ?_⟩
  exact h1 σ H1 (S'.ext k1 e1) _ fun vs H2 ⟨svs, g2, k2, e2, r2, hl, q⟩ => ⟨by rw [List.cons_append, List.length_cons, List.length_append, ← r2.length, ← (hds H2 g2 k2).length]; exact hl, .d (.cls c) :: (svs ++ dsv), g2, Q, ⟨_, _, rfl, rfl, r2.append (hds H2 g2 k2)⟩, k2, q, fun v H' z => q' v H' (z.back (e1.trans e2))⟩
end
section
variable {T : Tab} {A : Adr} {W : Wd} {C : CC} {pos p apos : Pos} {a e o : Expr} {es : List Expr} {ra : IE} {ras : IAs} {i : Nat} {x : Str}
theorem se_cmeth {nm : Str} {c f n : Nat} {d : DefI} {dv : List D} {sh : Bool} (hm : (c, nm, f) ∈ T.cmets) (hd : T.defs[f]? = some d) (hn : (f, n + 1) ∈ T.bnds) (hdv : dv = dfl d (n + 1)) (hl : lenA ras = n) (hb : baseB o = true) (hll : (apos.endLine == pos.line) = true) (hna : nsB a = true) (hs : es.all nsB = true) (h30 : (a :: es).length < 30) (h0 : SE T A W C o ra) (ha : SA T A W C (a :: es) ras) : SE T A W C (.Call (.Attribute o nm apos) (a :: es) [] pos) (.cmeth c f dv sh ra ras) := fun k X G ρ M v M' he ν g ρR Cf R => by
  unfold evE at he
  obtain ⟨⟨x, M1⟩, h1, h2⟩ := bind_inv he
  dsimp only at h2
  split at h2
  · rename_i c'
    obtain ⟨hc, h2⟩ := if_inv h2
    subst hc
    obtain ⟨⟨xs, M2⟩, h7, h8⟩ := bind_inv h2
    obtain ⟨dvs, ds, q1, q2, q3, q4⟩ := G.fct.bnd f _ d hn hd
    subst hdv
    have F := G.fnok hd
    have hall : (a :: es).all nsB = true := by rw [List.all_cons, hna, hs]; rfl
    obtain ⟨cr, pp, cm⟩ := G.fct.cmet _ _ _ hm
    rw [← G.hK] at q2 cr cm
    refine we_any (sh := sh) (we_cmeth cr cm F G.room q2 q1 q3 ((h0 k X G ρ M _ M1 h1 ν g ρR Cf R).imp fun sx g1 ⟨ν1, N1, r1⟩ => ⟨relS_d r1, (ha k X G ρ M1 xs M2 h7 ν1 g1 ρR N1.cfg (N1.rr R)).imp fun svs g2 ⟨ν2, N2, rl⟩ => ⟨args_len h7 hl rl q4, any_sp h8 N2.cfg (.cons (show RelS ν2 (.d (.cls c')) (.d (.cls c')) from rfl) (papp rl (relL_dd _))) fun s g' p => (p.back N2).back N1⟩⟩) (star_ns hna) (star_all hs) (meth_ht hb hall h30 hll))
  · cases h2
end
/-! ### a make by a local name -/
def tMakeL (i : Nat) (C : Addr) (sp : Sp) (dvs : List V) (E : XK) (t : TA) : TE := fun σ H Q => σ[i]? = some (some (.ref C)) ∧ tMake C sp dvs E t σ H Q
section
variable {X : Cx} {CX : CXT} {k i : Nat} {f C : Addr} {fd : FuncData} {ps : List Str} {sp : Sp} {dvs : List V} {ds : List Value} {E : XK} {x : Str} {p pos : Pos} {e : Expr} {es : List Expr} {t : TA}
theorem pe_makeL (M : Mk X.K C f) (F : FnOk X.prog X.w X.K X.mg X.base CX k f fd ps sp) (hr : Room (k + 1) X.A) (hN : X.N[i]? = some x) (hv : Vis X.env.scope x) (hb : Binds X.K fd ps ds) (hd : Vals dvs ds) (hx : Passes CX X E) (ha : PA X (e :: es) t)
    (hdb : (x == ("__debug__" : Str)) = false) (hcd : (x == ("__classdict__" : Str)) = false)
    (he : starEach (e :: es) X.env = (false, eval e X.env) :: starEach es X.env) (hpl : (backTo pos (starEach es X.env)).any (·.1) = false) : PE X (.Call (.Name x p) (e :: es) [] pos) (tMakeL i C sp dvs E t) := by
  refine ⟨fun pins s σ H Q I h => ?_⟩
  obtain ⟨hs, ht⟩ := h
  refine wpAny_Call_Name_kw (thn ((pe_var (pos := p) hN hv hdb hcd).run pins s σ H (fun v H1 => v = .ref C ∧ H1 = H) I ⟨.ref C, hs, rfl, rfl⟩) fun u s1 ⟨v, H1, I1, r1, q1⟩ => ?_)
  obtain ⟨rfl, rfl⟩ := q1
  cases r1
  refine PySem.W.callWith_K (h₀ := X.base) I.ok.mod.kin M.kp (thn (ha.run pos pins s1 σ _ _ I1 ht) fun us s2 ⟨vs, H2, I2, r, q⟩ => ⟨I2.kIn, ?_⟩) he hpl
  exact run_make M F hr hb hd hx I2 r q
end
def MksOk (T : Tab) (n : Nat) (dv : List D) : List (Nat × Nat) → Prop
  | [] => True
  | (c, f) :: m => (c, f) ∈ T.inits ∧ (f, n) ∈ T.bnds ∧ (∃ d, T.defs[f]? = some d ∧ dv = dfl d n) ∧ MksOk T n dv m
theorem mks_ok {T : Tab} {n : Nat} {dv : List D} {c f : Nat} : ∀ {m : List (Nat × Nat)}, MksOk T n dv m → m.lookup c = some f → (c, f) ∈ T.inits ∧ (f, n) ∈ T.bnds ∧ ∃ d, T.defs[f]? = some d ∧ dv = dfl d n
  | [], _, h => by cases h
  | (k, j) :: m, ⟨h1, h2, h3, h4⟩, h => by
    rw [List.lookup_cons] at h
    cases z : c == k with
    | true =>
      rw [z] at h
      cases h
      have : c = k := by simpa using z
      subst this
      exact ⟨h1, h2, h3⟩
    | false => rw [z] at h; exact mks_ok h4 h
section
variable {T : Tab} {A : Adr} {W : Wd} {C : CC} {pos p apos : Pos} {a e o : Expr} {es : List Expr} {ra : IE} {ras : IAs} {i : Nat} {x : Str}
theorem se_makeL {n : Nat} {tb : List (Nat × Nat)} {dv : List D} {sh : Bool} (hx : nameB C i x = true) (ht : MksOk T (n + 1) dv tb) (hl : lenA ras = n) (hna : nsB a = true) (hs : es.all nsB = true) (ha : SA T A W C (a :: es) ras) : SE T A W C (.Call (.Name x p) (a :: es) [] pos) (.makeL i tb dv sh ras) := fun k X G ρ M v M' he ν g ρR Cf R => by
  unfold evE at he
  split at he
  · rename_i c hc
    obtain ⟨f, h0, he⟩ := bind_inv he
    obtain ⟨⟨xs, M1⟩, h1, h2⟩ := bind_inv he
    obtain ⟨n1, n2, n3, n4⟩ := G.vis hx
    obtain ⟨hi, hn, d, hd, hdv⟩ := mks_ok ht h0
    obtain ⟨dvs, ds, q1, q2, q3, q4⟩ := G.fct.bnd f _ d hn hd
    subst hdv
    have F := G.fnokM hd
    have MK := G.fct.init c f hi
    rw [← G.hK] at q2 MK
    refine we_any (sh := sh) ?_
    intro σ H S' Q' q'
    refine ts_of (pe_makeL (i := i) MK F G.room n1 n2 q2 q1 pass0 pa_s n3 n4 (star_ns hna) (star_all hs)) ?_
    obtain ⟨s0, hs0, rs0⟩ := relP_some R hc
    cases relS_d rs0
    obtain ⟨v0, hv0, rv0⟩ := S'.get i _ hs0
    cases (show v0 = .ref (W.cl c) from rv0)
    refine ⟨hv0, ?_⟩
    refine ha k X G ρ M xs M1 h1 ν g ρR Cf R σ H S' _ fun vs H1 ⟨svs, g1, k1, e1, r1, ν1, N1, rl⟩ => ?_
    have hl1 := args_len h1 hl rl q4
    intro a dx na nd ne
    have nx : upd H1 dx (.own a) a = none := by rw [upd_ne ne.symm]; exact na
    have e2 : Ext g1 H1 g1 (upd H1 dx (.own a)) := Ext.new nd
    have k2 : GOk W (upd H1 dx (.own a)) g1 := k1.new nd
    have e3 : Ext g1 (upd H1 dx (.own a)) (gset g1 a (.ins c [])) (upd (upd H1 dx (.own a)) a (.ins (W.cl c) dx [])) := Ext.newOb nx
    have k3 : GOk W (upd (upd H1 dx (.own a)) a (.ins (W.cl c) dx [])) (gset g1 a (.ins c [])) := k2.newOb (m := .ins c []) nx ⟨dx, [], upd_same, rfl⟩
    have r3 := (r1.ext (e2.trans e3)).append (q3 _ _ k3)
    refine ⟨by rw [List.length_cons, ← r3.length, List.length_append]; exact hl1, .ob a :: (svs ++ (dfl d (n + 1)).map SV.d), _, _, ⟨.ref a, _, rfl, rfl, r3⟩, k3, mk_sp h2 N1.cfg (papp rl (relL_dd _)) (k1.free na) fun s g' p => p.back N1, fun v H' ⟨r, g', k4, e4, r4, hr, q⟩ => ?_⟩
    subst hr
    exact ⟨r4, q' _ _ ⟨.ob a, g', k4, ((e1.trans e2).trans e3).trans e4, rfl, q⟩⟩
  · cases he
end
/-! ### a list taken for a tree -/
section
variable {ν : List Addr} {M : MS} {g : DL.G} {i : Nat} {a : Addr} {o : MO}
theorem Nxt.del (C : Cfg ν M g) (h : obj M i = some o) (ha : ν[i]? = some a) : Nxt ν M g ν (M.set i none) (gdel g a) := by
  have h := obj_eq h
  have hi : i < M.length := (List.getElem?_eq_some_iff.mp h).1
  have get : ∀ {j : Nat} {o' : MO}, (M.set i none)[j]? = some (some o') → j ≠ i ∧ M[j]? = some (some o') := fun {j o'} e => by
    by_cases z : i = j
    · subst z
      rw [List.getElem?_set_self hi] at e
      cases e
    · rw [List.getElem?_set_ne z] at e
      exact ⟨fun q => z q.symm, e⟩
  have ne : ∀ {j : Nat} {b : Addr} {o' : MO}, j ≠ i → M[j]? = some (some o') → ν[j]? = some b → b ≠ a := fun {j b o'} hj h1 h2 z => hj (C.inj j i a o' o h1 h (by rw [← z]; exact h2) ha)
  refine ⟨⟨[], by simp⟩, ⟨by rw [List.length_set]; exact C.len, fun j u e => ?_, fun j k b o1 o2 e1 e2 => C.inj j k b o1 o2 (get e1).2 (get e2).2⟩, fun b u e n => ?_⟩
  · obtain ⟨hj, e⟩ := get e
    obtain ⟨b, v, h1, h2, h3⟩ := C.at_ j u e
    exact ⟨b, v, h1, by rw [gdel_ne (ne hj e h1)]; exact h2, h3⟩
  · have hb : b ≠ a := fun z => n ⟨i, o, h, by rw [z]; exact ha⟩
    refine ⟨by rw [gdel_ne hb]; exact e, fun ⟨j, u', h1, h2⟩ => n ⟨j, u', (get h1).2, h2⟩⟩
end
theorem se_frz {T : Tab} {A : Adr} {W : Wd} {C : CC} {e : Expr} {r : IE} (h : SE T A W C e r) : SE T A W C e (.frz r) := fun k X G ρ M v M' he ν g ρR Cf R => by
  unfold evE at he
  obtain ⟨⟨x, M1⟩, h1, h2⟩ := bind_inv he
  dsimp only at h2
  split at h2
  · rename_i i
    split at h2
    · rename_i l el
      obtain ⟨ds, h3, h4⟩ := map_inv h2
      cases h4
      refine we_freeze ((h k X G ρ M _ M1 h1 ν g ρR Cf R).imp fun s g1 ⟨ν1, N1, r1⟩ => ?_)
      obtain ⟨a, u, rfl, ha, hu, hr⟩ := N1.cfg.obj el r1
      obtain ⟨gl, rfl, rl⟩ := relO_lst hr
      rw [relL_all rl h3] at hu
      exact ⟨a, rfl, .inl ⟨ds, hu, ν1, N1.trans (Nxt.del N1.cfg el ha), (show D.lst ds = D.lst ds from rfl)⟩⟩
    · cases h2
  · cases h2
/-! ### the hook -/
def obsE (n : Nat) (T : Tab) (g : Addr → Option Obj) : He.AlD × Bool := (He5.obsA T.fas T.fn (He.frT g (He5.asA g n)), T.ex (He.frT g (He5.asA g n)))
def hookE (n : Nat) (T : Tab) : PySem.W.Hook where
  α := He.AlD × Bool
  obs := fun s => obsE n T s.heap.get?
  val := fun _ => (He5.valA T.fn, true)
  says := fun _ h => ∃ K : PySem.W.Frag, K.In h ∧ He5.SaysA T.fas T.fn K ∧ T.ex K = true
  of := fun _ _ e => ⟨_, He.frT_in, congrArg (fun z : He.AlD × Bool => z.1) e, congrArg (fun z : He.AlD × Bool => z.2) e⟩
  keeps := fun _ _ _ ⟨K, hK, c⟩ k => ⟨K, PySem.W.Frag.In.keeps hK k, c⟩
theorem obsE_eq {n : Nat} {T : Tab} {g : Addr → Option Obj} {s : Shared} (h : ∀ a, g a = s.heap.get? a) : obsE n T g = (hookE n T).obs s := by
  have e : g = s.heap.get? := funext h
  rw [e] <;> rfl
/-! the same, over places that are told -/
def obsL (as : List Addr) (T : Tab) (g : Addr → Option Obj) : He.AlD × Bool := (He5.obsA T.fas T.fn (He.frT g as), T.ex (He.frT g as))
def hookL (as : List Addr) (T : Tab) : PySem.W.Hook where
  α := He.AlD × Bool
  obs := fun s => obsL as T s.heap.get?
  val := fun _ => (He5.valA T.fn, true)
  says := fun _ h => ∃ K : PySem.W.Frag, K.In h ∧ He5.SaysA T.fas T.fn K ∧ T.ex K = true
  of := fun _ _ e => ⟨_, He.frT_in, congrArg (fun z : He.AlD × Bool => z.1) e, congrArg (fun z : He.AlD × Bool => z.2) e⟩
  keeps := fun _ _ _ ⟨K, hK, c⟩ k => ⟨K, PySem.W.Frag.In.keeps hK k, c⟩
theorem obsL_eq {as : List Addr} {T : Tab} {g : Addr → Option Obj} {s : Shared} (h : ∀ a, g a = s.heap.get? a) : obsL as T g = (hookL as T).obs s := by
  have e : g = s.heap.get? := funext h
  rw [e] <;> rfl
end EV

set_option autoImplicit false
/-! the same rules, the operator told by an equation -/
namespace EV
open PySem PySem.Spec PyProof.Rows L2 DL
section
variable {T : Tab} {A : Adr} {W : Wd} {C : CC} {pos : Pos} {a b : Expr} {ra rb : IE}
theorem se_binE {op : BOp} {o : Operator} (ho : opOf op = o) (ha : SE T A W C a ra) (hb : SE T A W C b rb) : SE T A W C (.BinOp a o b pos) (.bin op ra rb) := by
  subst ho; exact se_bin ha hb
theorem se_cmpE {op : COp} {o : CmpOp} (ho : copOf op = o) (hm : stB b = true) (ha : SE T A W C a ra) (hb : SE T A W C b rb) : SE T A W C (.Compare a [o] [b] pos) (.cmp op ra rb) := by
  subst ho; exact se_cmp hm ha hb
theorem st_cmpE {op : COp} {o : CmpOp} (ho : copOf op = o) (hm : stB b = true) (ha : SE T A W C a ra) (hb : SE T A W C b rb) : EV.ST T A W C (.Compare a [o] [b] pos) (.val (.cmp op ra rb)) := by
  subst ho; exact st_cmp hm ha hb
end
end EV

set_option autoImplicit false
/-! properties, len and str of own things, own ==, texts with a part, displays with a star, calls with keywords -/
namespace EV
open PySem PySem.Spec PyProof.Rows L2 DL
/-- a thing of a class, a tree or one that may change -/
def InsA (g : G) (c : Nat) : SV → Prop
  | .d (.ins c' _) => c' = c
  | .ob a => ∃ fs, g a = some (.ins c fs)
  | _ => False
theorem InsA.at {W : Wd} {H : Hp} {g : G} {c : Nat} {s : SV} {v : V} (i : InsA g c s) (k : GOk W H g) (r : RepS W H g s v) : ∃ a dx fs, v = .ref a ∧ H a = some (.ins (W.cl c) dx fs) := by
  cases s with
  | ob a =>
    obtain ⟨fs, h1⟩ := i
    obtain ⟨dx, vs, e1, e2⟩ := k a _ h1
    exact ⟨a, dx, vs, r, e1⟩
  | d x =>
    cases x with
    | ins c' fs =>
      cases (show c' = c from i)
      obtain ⟨a, dx, vs, rfl, e1, e2, e3⟩ := r
      exact ⟨a, dx, vs, rfl, e1⟩
    | _ => exact False.elim i
theorem insA_rel {M : MS} {x sx : SV} {c : Nat} {ν : List Addr} {g : G} (Cf : Cfg ν M g) (hc : clsOf M x = some c) (r : RelS ν x sx) : InsA g c sx := by
  rcases clsOf_ins hc with ⟨fs, rfl⟩ | ⟨i, fs, rfl, e⟩
  · rw [relS_d r]; exact (rfl : c = c)
  · obtain ⟨a, u, rfl, ha, hu, ho⟩ := Cf.obj e r
    obtain ⟨gs, rfl, rg⟩ := relO_ins ho
    exact ⟨gs, hu⟩
/-- a table of methods that take self alone -/
def OneOk (T : Tab) (P : Nat → Nat → Prop) : List (Nat × Nat) → Prop
  | [] => True
  | (c, f) :: m => (c ∈ T.clss ∧ P c f ∧ (f, 0 + 1) ∈ T.bnds ∧ ∃ d, T.defs[f]? = some d ∧ dfl d (0 + 1) = []) ∧ OneOk T P m
theorem one_ok {T : Tab} {P : Nat → Nat → Prop} {c f : Nat} : ∀ {m : List (Nat × Nat)}, OneOk T P m → m.lookup c = some f → c ∈ T.clss ∧ P c f ∧ (f, 0 + 1) ∈ T.bnds ∧ ∃ d, T.defs[f]? = some d ∧ dfl d (0 + 1) = []
  | [], _, h => by cases h
  | (k, j) :: m, ⟨h1, h2⟩, h => by
    rw [List.lookup_cons] at h
    cases z : c == k with
    | true =>
      rw [z] at h
      cases h
      have : c = k := by simpa using z
      subst this
      exact h1
    | false => rw [z] at h; exact one_ok h2 h
section
variable {X : Cx} {W : Wd} {ρ : Rho} {g : G} {Q : QE} {pos p : Pos} {o : Expr} {n k : Nat} {f q : Addr} {fd : FuncData} {ps : List Str} {S : SpD} {m : Str} {ds : List Value} {dvs : List V}
theorem we_prop {c : Nat} (c1 : Cls X.K (W.cl c)) (hp : PropOf X.K (W.cl c) m q f) (F : FnOk X.prog X.w X.K X.mg X.base CX0 k f fd ps (liftSp W n S)) (hr : Room (k + 1) X.A) (hb : Binds X.K fd ps ds) (hd : Vals dvs ds) (hds : DefV W [] dvs)
    (h : WE X W o ρ g fun sv g1 => InsA g1 c sv ∧ 1 = n ∧ S [sv] g1 Q) (hab : attributeBase o m X.env (eval o X.env) = eval o X.env) : WE X W (.Attribute o m pos) ρ g Q := fun σ H S' Q' q' => by
  refine ts_of (pe_prop pe_s c1 hp F hr hb hd pass0 hab) ?_
  refine h σ H S' _ fun v H1 ⟨sv, g1, k1, e1, r1, i1, hn, h1⟩ => ?_
  obtain ⟨a, dx, fs, rfl, ha⟩ := i1.at k1 r1
  have hz : RepSs W H1 g1 [] dvs := hds H1 g1 k1
  cases (show dvs = [] from hz)
  exact ⟨a, dx, fs, rfl, ha, hn, [sv], g1, Q, ⟨_, _, rfl, r1, rfl⟩, k1, h1, fun v H' z => q' v H' (z.back e1)⟩
end
/-! ### len, str of own things -/
section
variable {X : Cx} {k : Nat} {f c : Addr} {fd : FuncData} {ps : List Str} {sp : Sp} {ds : List Value} {dvs : List V} {E : XK}
/-- what an own special def is called with, what it gives back -/
def rOwn (c : Addr) (sp : Sp) (dvs : List V) (E : XK) (ok : V → Prop) : List V → Hp → VK → Prop := fun xs H Q => ∃ a dx fs, xs = [.ref a] ∧ H a = some (.ins c dx fs) ∧ sp (.ref a :: dvs) H (fun v H' => ok v ∧ Q v H') E
def isLen : V → Prop
  | .int n => 0 ≤ n ∧ n < 2 ^ 63
  | _ => False
def isTxt : V → Prop
  | .str _ => True
  | _ => False
theorem call_lenO (hs : PySem.W.findIn X.K (.ref c) "__len__" = some (some (.ref f))) (hf : PySem.W.isFn X.K (.ref f) = true) (F : FnOk X.prog X.w X.K X.mg X.base CX0 k f fd ps sp) (hr : Room (k + 1) X.A) (hb : Binds X.K fd ps ds) (hd : Vals dvs ds) : CallR X (.builtin "len") (rOwn c sp dvs E isLen) := by
  intro pins s σ H xs us Q I r h
  obtain ⟨a, dx, fs, rfl, ha, h⟩ := h
  obtain ⟨u, rfl, ru⟩ := vals1 r
  cases ru
  obtain ⟨mA, O, _⟩ := ins_get I.hok ha
  obtain ⟨od, J, _⟩ := O.look
  obtain ⟨m, hF⟩ := I.fr
  refine PySem.W.len_K hF I.ok.mod.kin J hs hf ?_
  have hl : ([Value.ref a] ++ ds).length = ps.length := by
    rw [← F.len _ _ _ _ h]
    show ds.length + 1 = dvs.length + 1
    rw [hd.length]
  refine wpAny_call (codeAny_mono (F.run X.A.in1 X.stack s H ⟨[.ref a], []⟩ (.ref a :: ds) (.ref a :: dvs) _ E hr.in1 I.env0.in1 (hb _ [.ref a] I.kIn hl) (.cons rfl hd) h) fun r s' hq => ?_)
  cases r with
  | error er => exact pass0 (X := X) pins σ H s er s' I hq
  | ok fl =>
    cases fl with
    | ret u =>
      obtain ⟨v, H', I3, rv, hv, q3⟩ := I.after hq
      cases v <;> first | exact hv.elim | skip
      rename_i z
      obtain ⟨t, rfl⟩ := rv
      exact ⟨hv, ⟨.int z, H', I3.tok _, ⟨_, rfl⟩, q3⟩⟩
    | next => exact False.elim hq
    | brk => exact False.elim hq
    | cont => exact False.elim hq
theorem call_strO (hs : PySem.W.findIn X.K (.ref c) "__str__" = some (some (.ref f))) (hf : PySem.W.isFn X.K (.ref f) = true) (F : FnOk X.prog X.w X.K X.mg X.base CX0 k f fd ps sp) (hr : Room (k + 2) X.A) (hb : Binds X.K fd ps ds) (hd : Vals dvs ds) : CallR X (.type "str") (rOwn c sp dvs E isTxt) := by
  intro pins s σ H xs us Q I r h
  obtain ⟨a, dx, fs, rfl, ha, h⟩ := h
  obtain ⟨u, rfl, ru⟩ := vals1 r
  cases ru
  obtain ⟨mA, O, _⟩ := ins_get I.hok ha
  obtain ⟨od, J, _⟩ := O.look
  refine PySem.W.kso_call hr.in1.in1.units0 I.kIn J hs hf ?_
  have hl : ([Value.ref a] ++ ds).length = ps.length := by
    rw [← F.len _ _ _ _ h]
    show ds.length + 1 = dvs.length + 1
    rw [hd.length]
  refine wpAny_call (codeAny_mono (F.run X.A.in1.in1 X.stack s H ⟨[.ref a], []⟩ (.ref a :: ds) (.ref a :: dvs) _ E hr.in1.in1 I.env0.in1.in1 (hb _ [.ref a] I.kIn hl) (.cons rfl hd) h) fun r s' hq => ?_)
  cases r with
  | error er => exact pass0 (X := X) pins σ H s er s' I hq
  | ok fl =>
    cases fl with
    | ret u =>
      obtain ⟨v, H', I3, rv, hv, q3⟩ := I.after hq
      cases v <;> first | exact hv.elim | skip
      rename_i z
      obtain ⟨t, rfl⟩ := rv
      exact ⟨.str z, H', I3, ⟨_, rfl⟩, q3⟩
    | next => exact False.elim hq
    | brk => exact False.elim hq
    | cont => exact False.elim hq
end
section
variable {T : Tab} {A : Adr} {W : Wd} {C : CC}
variable {pos p p2 apos kpos : Pos} {a b e o : Expr} {es : List Expr} {kws : List Keyword} {ra rb : IE} {ras : IAs}
theorem se_prop {nm : Str} {m : List (Nat × Nat)} {sh : Bool} (hm : OneOk T (fun c f => (c, nm, f) ∈ T.props) m) (hb : baseB o = true) (h0 : SE T A W C o ra) : SE T A W C (.Attribute o nm pos) (.prop m sh ra) := fun k X G ρ M v M' he ν g ρR Cf R => by
  unfold evE at he
  obtain ⟨⟨x, M1⟩, h1, h2⟩ := bind_inv he
  obtain ⟨c, h3, h4⟩ := bind_inv h2
  obtain ⟨f, h5, h6⟩ := bind_inv h4
  obtain ⟨m1, m2, m3, d, hd, hdv⟩ := one_ok hm h5
  obtain ⟨dvs, ds, q1, q2, q3, q4⟩ := G.fct.bnd f _ d m3 hd
  rw [hdv] at q3 q4
  have F := G.fnokM hd
  obtain ⟨pa, pr⟩ := G.fct.prop _ _ _ m2
  have c1 := (G.fct.cls c m1).c
  rw [← G.hK] at q2 pr c1
  refine we_any (sh := sh) (we_prop c1 pr F G.room q2 q1 q3 ((h0 k X G ρ M x _ h1 ν g ρR Cf R).imp fun sx g1 ⟨ν1, N1, r1⟩ => ⟨insA_rel N1.cfg h3 r1, q4, any_sp h6 N1.cfg (.cons r1 .nil) fun s g' p => p.back N1⟩) (base_eq hb))
theorem anyQ_back {sh : Bool} {Q : QE} {sv : SV} {g g' : G} {W : Wd} {H H' : Hp} {v : V} (k : GOk W H' g') (ex : Ext g H g' H') (r : RepS W H' g' sv v) (q : anyQ sh Q sv g') : PostE W g H Q v H' := by
  unfold anyQ at q
  cases sh with
  | true => rw [if_pos rfl] at q; exact ⟨sv, g', k, ex, r, q⟩
  | false =>
    rw [if_neg (by decide)] at q
    obtain ⟨ν', M1, r', d, n, Cf, rs, hf, q⟩ := q
    have B : Bare ν' M1 g' (cutG ν' M1 g') := cut_bare
    exact ⟨.d d, _, k.less B.2, ex.trans B.2.ext, frz_rep Cf k B n r' sv d v hf rs r, q⟩
theorem se_lenm {m : List (Nat × Nat)} {sh : Bool} (hm : OneOk T (fun c f => (c, ("__len__" : Str), f) ∈ T.meths) m) (hg : globB C "len" = true) (hf : ("len" : Str) ∈ T.free) (hn : nsB a = true) (h0 : SE T A W C a ra) : SE T A W C (.Call (.Name "len" p) [a] [] pos) (.lenm m sh ra) := fun k X G ρ M v M' he ν g ρR Cf R => by
  unfold evE at he
  obtain ⟨⟨x, M1⟩, h1, h2⟩ := bind_inv he
  obtain ⟨c, h3, h4⟩ := bind_inv h2
  obtain ⟨f, h5, h6⟩ := bind_inv h4
  obtain ⟨⟨rv, M2⟩, h7, h8⟩ := bind_inv h6
  dsimp only at h8
  split at h8
  · rename_i z
    obtain ⟨hz, h8⟩ := if_inv h8
    obtain ⟨rfl, rfl⟩ := ret_inv h8
    obtain ⟨m1, m2, m3, d, hd, hdv⟩ := one_ok hm h5
    obtain ⟨dvs, ds, q1, q2, q3, q4⟩ := G.fct.bnd f _ d m3 hd
    rw [hdv] at q3 q4
    have F := G.fnokM hd
    have mt := G.fct.meth _ _ _ m2
    obtain ⟨gl, hdb⟩ := G.gl hg
    rw [← G.hK] at q2 mt
    intro σ H S' Q' q'
    refine ts_of (pe_callB (call_lenO (E := E0) mt.at_ mt.fn F G.room q2 q1) gl (G.fct.free _ hf) rfl (pa_cons pe_s pa_nil (star_ns hn)) (by decide) hdb (star_ns hn) rfl) ?_
    refine h0 k X G ρ M x M1 h1 ν g ρR Cf R σ H S' _ fun v0 H1 ⟨sv, g1, k1, e1, r1, ν1, N1, rs⟩ => ?_
    obtain ⟨ad, dx, fs, rfl, ha⟩ := (insA_rel N1.cfg h3 rs).at k1 r1
    have hz0 : RepSs W H1 g1 [] dvs := q3 H1 g1 k1
    cases (show dvs = [] from hz0)
    refine ⟨ad, dx, fs, rfl, ha, q4, [sv], g1, anyQ sh (fun s g' => s = .d (.int z) ∧ PV ν M g (.d (.int z)) M' s g'), ⟨_, _, rfl, r1, rfl⟩, k1, any_sp h7 N1.cfg (.cons rs .nil) fun s g' p => ⟨?_, p.back N1⟩, fun v H' ⟨r, g', k4, e4, r4, q⟩ => ?_⟩
    · obtain ⟨_, _, rr⟩ := p; exact relS_d rr
    · obtain ⟨s2, g2, k5, e5, r5, rfl, q5⟩ := anyQ_back k4 e4 r4 q
      cases (show v = .int z from r5)
      exact ⟨hz, q' _ _ ⟨.d (.int z), g2, k5, e1.trans e5, rfl, q5⟩⟩
  · cases h8
theorem se_strm {m : List (Nat × Nat)} {sh : Bool} (hm : OneOk T (fun c f => (c, ("__str__" : Str), f) ∈ T.meths) m) (hg : globB C "str" = true) (hf : ("str" : Str) ∈ T.free) (hn : nsB a = true) (h0 : SE T A W C a ra) : SE T A W C (.Call (.Name "str" p) [a] [] pos) (.strm m sh ra) := fun k X G ρ M v M' he ν g ρR Cf R => by
  unfold evE at he
  obtain ⟨⟨x, M1⟩, h1, h2⟩ := bind_inv he
  obtain ⟨c, h3, h4⟩ := bind_inv h2
  obtain ⟨f, h5, h6⟩ := bind_inv h4
  obtain ⟨⟨rv, M2⟩, h7, h8⟩ := bind_inv h6
  dsimp only at h8
  split at h8
  · rename_i z
    obtain ⟨rfl, rfl⟩ := ret_inv h8
    obtain ⟨m1, m2, m3, d, hd, hdv⟩ := one_ok hm h5
    obtain ⟨dvs, ds, q1, q2, q3, q4⟩ := G.fct.bnd f _ d m3 hd
    rw [hdv] at q3 q4
    have F := G.fnokL hd
    have mt := G.fct.meth _ _ _ m2
    obtain ⟨gl, hdb⟩ := G.gl hg
    rw [← G.hK] at q2 mt
    intro σ H S' Q' q'
    refine ts_of (pe_callTy (call_strO (E := E0) mt.at_ mt.fn F G.room q2 q1) gl (G.fct.free _ hf) rfl (pa_cons pe_s pa_nil (star_ns hn)) (by decide) hdb (star_ns hn) rfl) ?_
    refine h0 k X G ρ M x M1 h1 ν g ρR Cf R σ H S' _ fun v0 H1 ⟨sv, g1, k1, e1, r1, ν1, N1, rs⟩ => ?_
    obtain ⟨ad, dx, fs, rfl, ha⟩ := (insA_rel N1.cfg h3 rs).at k1 r1
    have hz0 : RepSs W H1 g1 [] dvs := q3 H1 g1 k1
    cases (show dvs = [] from hz0)
    refine ⟨ad, dx, fs, rfl, ha, q4, [sv], g1, anyQ sh (fun s g' => s = .d (.str z) ∧ PV ν M g (.d (.str z)) M' s g'), ⟨_, _, rfl, r1, rfl⟩, k1, any_sp h7 N1.cfg (.cons rs .nil) fun s g' p => ⟨?_, p.back N1⟩, fun v H' ⟨r, g', k4, e4, r4, q⟩ => ?_⟩
    · obtain ⟨_, _, rr⟩ := p; exact relS_d rr
    · obtain ⟨s2, g2, k5, e5, r5, rfl, q5⟩ := anyQ_back k4 e4 r4 q
      cases (show v = .str z from r5)
      exact ⟨True.intro, q' _ _ ⟨.d (.str z), g2, k5, e1.trans e5, rfl, q5⟩⟩
  · cases h8
/-! ### a display with a star ahead -/
theorem se_tupS {kk : Nat} (h0 : SE T A W C o ra) (ha : SA T A W C es ras) : SE T A W C (.Tuple (.Starred o p :: es) kk pos) (.tupS ra ras) := fun k X G ρ M v M' he ν g ρR Cf R => by
  unfold evE at he
  obtain ⟨⟨x, M1⟩, h1, h2⟩ := bind_inv he
  dsimp only at h2
  split at h2
  · rename_i l
    obtain ⟨⟨xs, M2⟩, h3, h4⟩ := bind_inv h2
    obtain ⟨hl, h4⟩ := if_inv h4
    obtain ⟨ds, h5, h6⟩ := bind_inv h4
    obtain ⟨rfl, rfl⟩ := ret_inv h6
    intro σ H S' Q' q'
    refine ts_of (pe_tup (StX.pa_star pe_s pa_s)) ?_
    refine h0 k X G ρ M _ M1 h1 ν g ρR Cf R σ H S' _ fun v0 H1 ⟨sv, g1, k1, e1, r1, ν1, N1, rs⟩ => ?_
    cases relS_d rs
    obtain ⟨b, ys, rfl, hb, rb⟩ := tup_rel r1
    rw [G.hK]
    refine ⟨b, ys, rfl, .inl hb, ?_⟩
    refine ha k X G ρ M1 xs _ h3 ν1 g1 ρR N1.cfg (N1.rr R) σ H1 (S'.ext k1 e1) _ fun vs H2 ⟨svs, g2, k2, e2, r2, ν2, N2, rl⟩ => ?_
    cases relL_all rl h5
    have r3 := reps_of r2
    have r4 : Reps W H2 g2 (l ++ ds) (ys ++ vs) := (Reps.ext e2 _ _ rb).append r3
    have hlen : (ys ++ vs).length ≤ 1000 := by
      have z : xs.length = ds.length := by
        have := congrArg List.length (allD_eq (l := xs) h5)
        rw [List.length_map] at this; exact this
      rw [← r4.length, List.length_append, ← z]; exact hl
    refine ⟨Nat.le_trans hlen (by decide), fun pn hp => q' _ _ ⟨.d (.tup (l ++ ds)), g2, k2.new hp, (e1.trans e2).trans (Ext.new hp), ⟨pn, ys ++ vs, rfl, .inl ⟨.inl upd_same, k2.free hp⟩, Reps.ext (Ext.new hp) _ _ r4⟩, ν2, N1.trans N2, rfl⟩⟩
  · cases h2
theorem sts_nil {C : CC} : STs T A W C [] .tt := rfl
theorem mo_nil {nm : Str} {n : Nat} {dv : List D} : MethsOk T nm n dv [] := True.intro
theorem mo_cons {nm : Str} {n c f : Nat} {dv : List D} {m : List (Nat × Nat)} (h1 : c ∈ T.clss) (h2 : (c, nm, f) ∈ T.meths) (h3 : (f, n) ∈ T.bnds) (h4 : ∃ d, T.defs[f]? = some d ∧ dv = dfl d n) (h5 : MethsOk T nm n dv m) : MethsOk T nm n dv ((c, f) :: m) := ⟨h1, h2, h3, h4, h5⟩
theorem mk_nil {n : Nat} {dv : List D} : MksOk T n dv [] := True.intro
theorem mk_cons {n c f : Nat} {dv : List D} {m : List (Nat × Nat)} (h1 : (c, f) ∈ T.inits) (h3 : (f, n) ∈ T.bnds) (h4 : ∃ d, T.defs[f]? = some d ∧ dv = dfl d n) (h5 : MksOk T n dv m) : MksOk T n dv ((c, f) :: m) := ⟨h1, h3, h4, h5⟩
theorem oo_nil {P : Nat → Nat → Prop} : OneOk T P [] := True.intro
theorem oo_cons {P : Nat → Nat → Prop} {c f : Nat} {m : List (Nat × Nat)} (h1 : c ∈ T.clss) (h2 : P c f) (h3 : (f, 0 + 1) ∈ T.bnds) (h4 : ∃ d, T.defs[f]? = some d ∧ dfl d (0 + 1) = []) (h5 : OneOk T P m) : OneOk T P ((c, f) :: m) := ⟨⟨h1, h2, h3, h4⟩, h5⟩
end
end EV

set_option autoImplicit false
/-! texts with a part, own ==, calls with keywords -/
namespace EV
open PySem PySem.Spec PyProof.Rows L2 DL
section
variable {T : Tab} {A : Adr} {W : Wd} {C : CC}
variable {pos p p2 apos kpos : Pos} {a b e o : Expr} {es : List Expr} {kws : List Keyword} {ra rb : IE} {ras : IAs}
/-! ### f'text{e}' -/
theorem fmt_rel {x sx : SV} {y : Str} {ν : List Addr} {W : Wd} {H : Hp} {g : G} {v : V} (h : fmtS x = some y) (r : RelS ν x sx) (q : RepS W H g sx v) : (∃ z : Str, v = .str z ∧ z = y ∧ z.length ≤ sizeLine) ∨ ∃ i : Int, v = .int i ∧ i.natAbs.log2 < 1920 ∧ toString i = y := by
  unfold fmtS at h
  split at h
  · rename_i z
    obtain ⟨hz, h⟩ := if_inv h
    cases h
    rw [relS_d r] at q
    exact .inl ⟨y, q, rfl, by rw [sizeLine_eq]; exact hz⟩
  · rename_i i
    obtain ⟨hz, h⟩ := if_inv h
    cases h
    rw [relS_d r] at q
    exact .inr ⟨i, q, hz, rfl⟩
  · cases h
theorem se_fstr {s : Str} {j : Nat} {cp fp : Pos} (h0 : SE T A W C a ra) : SE T A W C (.JoinedStr [.Constant (.str s) j cp, .FormattedValue a (-1) none fp] pos) (.fstr s ra) := fun k X G ρ M v M' he ν g ρR Cf R => by
  unfold evE at he
  obtain ⟨⟨x, M1⟩, h1, h2⟩ := bind_inv he
  obtain ⟨y, h3, h4⟩ := bind_inv h2
  obtain ⟨⟨hz1, hz2⟩, h4⟩ := if_inv h4
  obtain ⟨rfl, rfl⟩ := ret_inv h4
  intro σ H S' Q' q'
  refine ts_of (pe_joined (.cons pe_s (.cons (pe_fmt pe_s) .nil))) ?_
  refine se_str k X G ρ M (.d (.str s)) M (by unfold evE; rfl) ν g ρR Cf R σ H S' _ fun v0 H0 ⟨s0, g0, k0, e0, r0, ν0, N0, q0⟩ => ?_
  cases relS_d q0
  refine ⟨s, r0, by rw [sizeLine_eq]; exact hz1, ?_⟩
  refine h0 k X G ρ M x M' h1 ν0 g0 ρR N0.cfg (N0.rr R) σ H0 (S'.ext k0 e0) _ fun v1 H1 ⟨s1, g1, k1, e1, r1, ν1, N1, q1⟩ => ?_
  have fin : Q' (V.str (Str.empty ++ s ++ y)) H1 := q' _ _ ⟨.d (.str (Str.empty ++ s ++ y)), g1, k1, e0.trans e1, rfl, ν1, N0.trans N1, rfl⟩
  rcases fmt_rel h3 q1 r1 with ⟨z, rfl, rfl, hz⟩ | ⟨i, rfl, hi, hy⟩
  · exact .inl ⟨z, rfl, hz, z, rfl, by rw [sizeLine_eq]; exact hz2, fin⟩
  · subst hy
    exact .inr ⟨i, rfl, hi, _, rfl, by rw [sizeLine_eq]; exact hz2, fin⟩
/-! ### own == -/
/-- the own def's answer to two things of one class -/
def rEq (c : Addr) (sp : Sp) (E : XK) : R2 := fun x y H Q => ∃ a1 a2 d1 d2 f1 f2, x = .ref a1 ∧ y = .ref a2 ∧ H a1 = some (.ins c d1 f1) ∧ H a2 = some (.ins c d2 f2) ∧ sp [.ref a1, .ref a2] H (fun v H' => (∃ t, v = V.bl t) ∧ Q v H') E
theorem op_ownEq {X : Cx} {k : Nat} {f c : Addr} {fd : FuncData} {ps : List Str} {sp : Sp} {E : XK} (hs : PySem.W.findIn X.K (.ref c) "__eq__" = some (some (.ref f))) (hf : PySem.W.isFn X.K (.ref f) = true) (F : FnOk X.prog X.w X.K X.mg X.base CX0 k f fd ps sp) (hr : Room k X.A) (hb : Binds X.K fd ps []) : OpR X (compareOp .Eq) (rEq c sp E) := by
  intro pins s σ H x y v u Q I rx ry h
  obtain ⟨a1, a2, d1, d2, f1, f2, rfl, rfl, h1, h2, h⟩ := h
  cases rx
  cases ry
  obtain ⟨m1, O1, _⟩ := ins_get I.hok h1
  obtain ⟨m2, O2, _⟩ := ins_get I.hok h2
  obtain ⟨od1, J1, _⟩ := O1.look
  obtain ⟨od2, J2, _⟩ := O2.look
  obtain ⟨m, hF⟩ := I.fr
  show wpAny _ _ (richCompare .Eq (.ref a1) (.ref a2)) _ _ s
  refine PySem.W.cmp_K (op := .Eq) (tb := .ref c) hr.units0 hF I.ok.mod.kin J1 J2.type (by simp [PySem.W.notFirst]) hs hf ?_
  have hl := F.len _ _ _ _ h
  have rv : Vals [V.ref a1, V.ref a2] [Value.ref a1, Value.ref a2] := .cons rfl (.cons rfl .nil)
  refine wpAny_call (codeAny_mono (F.run X.A X.stack s H ⟨[.ref a1, .ref a2], []⟩ [.ref a1, .ref a2] [.ref a1, .ref a2] _ E hr I.env0 (by
    have := hb s [.ref a1, .ref a2] I.kIn (by simpa using hl)
    simpa using this) rv h) fun r s' hq => ?_)
  cases r with
  | error er => exact pass0 (X := X) pins σ H s er s' I hq
  | ok fl =>
    cases fl with
    | ret u =>
      obtain ⟨z, H', I3, rz, ⟨t, ez⟩, q3⟩ := I.after hq
      subst ez
      cases rz
      exact ⟨.bl t, H', I3, rfl, q3⟩
    | next => exact False.elim hq
    | brk => exact False.elim hq
    | cont => exact False.elim hq
def EqsOk (T : Tab) : List (Nat × Nat) → Prop
  | [] => True
  | (c, f) :: m => (c ∈ T.clss ∧ (c, ("__eq__" : Str), f) ∈ T.meths ∧ (f, 0 + 2) ∈ T.bnds ∧ ∃ d, T.defs[f]? = some d ∧ dfl d (0 + 2) = []) ∧ EqsOk T m
theorem eo_nil : EqsOk T [] := True.intro
theorem eo_cons {c f : Nat} {m : List (Nat × Nat)} (h1 : c ∈ T.clss) (h2 : (c, ("__eq__" : Str), f) ∈ T.meths) (h3 : (f, 0 + 2) ∈ T.bnds) (h4 : ∃ d, T.defs[f]? = some d ∧ dfl d (0 + 2) = []) (h5 : EqsOk T m) : EqsOk T ((c, f) :: m) := ⟨⟨h1, h2, h3, h4⟩, h5⟩
theorem eqs_ok {c f : Nat} : ∀ {m : List (Nat × Nat)}, EqsOk T m → m.lookup c = some f → c ∈ T.clss ∧ (c, ("__eq__" : Str), f) ∈ T.meths ∧ (f, 0 + 2) ∈ T.bnds ∧ ∃ d, T.defs[f]? = some d ∧ dfl d (0 + 2) = []
  | [], h, e => by cases e
  | (k, j) :: m, ⟨h1, h2⟩, h => by
    rw [List.lookup_cons] at h
    cases z : c == k with
    | true =>
      rw [z] at h
      cases h
      have : c = k := by simpa using z
      subst this
      exact h1
    | false => rw [z] at h; exact eqs_ok h2 h
theorem eqm_low {k : Nat} {X : Cx} (G : Good T A W C k X) {m : List (Nat × Nat)} (hm : EqsOk T m) {x y : SV} {c f : Nat} {M : MS} {t : Bool} (h3 : clsOf M x = some c) (h4 : clsOf M y = some c) (h5 : m.lookup c = some f) (h6 : pureC (callK T.dfs k) f [x, y] M = some (.d (.bl t), M)) :
    ∃ r, OpR X (compareOp .Eq) r ∧ ∀ ν g sx sy, Cfg ν M g → RelS ν x sx → RelS ν y sy → RW W r sx sy g (PV ν M g (.d (.bl t)) M) := by
  obtain ⟨m1, m2, m3, d, hd, hdv⟩ := eqs_ok hm h5
  obtain ⟨dvs, ds, q1, q2, q3, q4⟩ := G.fct.bnd f _ d m3 hd
  rw [hdv] at q3 q4
  have F := G.fnok hd
  have mt := G.fct.meth _ _ _ m2
  rw [← G.hK] at q2 mt
  have hds : dvs = [] := q3 (fun _ => none) (fun _ => none) (fun a o e => by cases e)
  subst hds
  have hds2 : ds = [] := by cases q1; rfl
  subst hds2
  refine ⟨_, op_ownEq (E := E0) mt.at_ mt.fn F G.room q2, fun ν g sx sy Cf rx ry H vx vy k1 r1 r2 Q' q' => ?_⟩
  obtain ⟨a1, d1, f1, rfl, e1⟩ := (insA_rel Cf h3 rx).at k1 r1
  obtain ⟨a2, d2, f2, rfl, e2⟩ := (insA_rel Cf h4 ry).at k1 r2
  refine ⟨a1, a2, d1, d2, f1, f2, rfl, rfl, e1, e2, q4, [sx, sy], g, anyQ false (fun s g' => s = .d (.bl t) ∧ PV ν M g (.d (.bl t)) M s g'), ⟨_, _, rfl, r1, _, _, rfl, r2, rfl⟩, k1, any_sp (sh := false) h6 Cf (.cons rx (.cons ry .nil)) fun s g' p => ⟨?_, p⟩, fun v H' ⟨r, g', k4, e4, r4, q⟩ => ?_⟩
  · obtain ⟨_, _, rr⟩ := p; exact relS_d rr
  · obtain ⟨s2, g2, k5, e5, r5, rfl, q5⟩ := anyQ_back k4 e4 r4 q
    cases (show v = .bl t from r5)
    exact ⟨⟨t, rfl⟩, q' _ _ ⟨.d (.bl t), g2, k5, e5, rfl, q5⟩⟩
theorem eqm_inv {c : Call} {m : List (Nat × Nat)} {ρ : Rho} {M M' : MS} {v : SV} (he : evE c (.eqm m false ra rb) ρ M = some (v, M')) : ∃ x M1 y k f t, evE c ra ρ M = some (x, M1) ∧ evE c rb ρ M1 = some (y, M') ∧ clsOf M' x = some k ∧ clsOf M' y = some k ∧ m.lookup k = some f ∧ pureC c f [x, y] M' = some (.d (.bl t), M') ∧ v = .d (.bl t) := by
  unfold evE at he
  obtain ⟨⟨x, M1⟩, h1, h2⟩ := bind_inv he
  obtain ⟨⟨y, M2⟩, h3, h4⟩ := bind_inv h2
  obtain ⟨k, h5, h6⟩ := bind_inv h4
  obtain ⟨h7, h8⟩ := if_inv h6
  obtain ⟨f, h9, h10⟩ := bind_inv h8
  obtain ⟨⟨r, M3⟩, h11, h12⟩ := bind_inv h10
  dsimp only at h12
  split at h12
  · rename_i t
    obtain ⟨rfl, rfl⟩ := ret_inv h12
    obtain ⟨_, _, _, _, _, _, _, _, e⟩ := pure_inv h11
    subst e
    exact ⟨x, M1, y, k, f, t, h1, h3, h5, h7, h9, h11, rfl⟩
  · cases h12
theorem se_eqm {m : List (Nat × Nat)} (hm : EqsOk T m) (hb : stB b = true) (h0 : SE T A W C a ra) (h1 : SE T A W C b rb) : SE T A W C (.Compare a [.Eq] [b] pos) (.eqm m false ra rb) := fun k X G ρ M v M' he ν g ρR Cf R => by
  obtain ⟨x, M1, y, c, f, t, e1, e2, e3, e4, e5, e6, rfl⟩ := eqm_inv he
  obtain ⟨r, hr, hw⟩ := eqm_low G hm e3 e4 e5 e6
  refine we_cmp hr (mark_eq hb) ((h0 k X G ρ M x M1 e1 ν g ρR Cf R).imp fun sx g1 ⟨ν1, N1, r1⟩ => (h1 k X G ρ M1 y M' e2 ν1 g1 ρR N1.cfg (N1.rr R)).imp fun sy g2 ⟨ν2, N2, r2⟩ => ?_)
  exact (hw ν2 g2 sx sy N2.cfg (N2.rs r1) r2).imp fun s g' p => (p.back N2).back N1
end
end EV

set_option autoImplicit false
/-! calls with keywords -/
namespace EV
open PySem PySem.Spec PyProof.Rows L2 DL
/-- the names, where all have one -/
def kwNames : List Keyword → Option (List Str)
  | [] => some []
  | ⟨some n, _, _⟩ :: r => (kwNames r).map (n :: ·)
  | _ => none
structure KwF (kws : List Keyword) (ks : List Str) (pos : Pos) (env : Env) : Prop where
  all : (backToKw pos (keywordEach kws env)).all (·.1.isSome) = true
  names : (backToKw pos (keywordEach kws env)).filterMap (·.1) = ks
  plain : (backToKw pos (keywordEach kws env)).any (·.1.isNone) = false
theorem kw_f {pos : Pos} {env : Env} : ∀ {kws : List Keyword} {ks : List Str}, kwNames kws = some ks → KwF kws ks pos env
  | [], ks, h => by cases h; exact ⟨rfl, rfl, rfl⟩
  | ⟨none, _, _⟩ :: r, ks, h => by cases h
  | ⟨some n, ex, kp⟩ :: r, ks, h => by
    obtain ⟨ks', h1, rfl⟩ := map_inv (x := kwNames r) h
    have ih := kw_f (pos := pos) (env := env) h1
    refine ⟨?_, ?_, ?_⟩
    · show (true && (backToKw pos (keywordEach r env)).all (·.1.isSome)) = true
      rw [ih.all]; rfl
    · show n :: (backToKw pos (keywordEach r env)).filterMap (·.1) = _
      rw [ih.names]
    · show (false || (backToKw pos (keywordEach r env)).any (·.1.isNone)) = false
      rw [ih.plain]; rfl
section
variable (X : Cx) (W : Wd)
def tSK (kws : List Keyword) : TA := fun σ H Q => ∀ pos pins s, Inv X pins σ H s → wpAny (model X.prog X.w) X.A (evalAll ((backToKw pos (keywordEach kws X.env)).map fun p => p.2)) (AP X pins σ Q) X.xe s
def WK (kws : List Keyword) (ρ : Rho) (g : G) (Q : List SV → G → Prop) : Prop := ∀ σ H, Sim W ρ g σ H → ∀ Q' : List V → Hp → Prop, (∀ vs H', PostA W g H Q vs H' → Q' vs H') → tSK X kws σ H Q'
end
section
variable {X : Cx} {W : Wd} {ρ : Rho} {g : G} {kws : List Keyword} {e : Expr} {σ : L2.St} {H : Hp} {nm : Option Str} {kp : Pos}
theorem pk_s : PK X kws (tSK X kws) := ⟨fun pos pins s σ H Q I h => h pos pins s I⟩
theorem tk_of {t : TA} (h : PK X kws t) {Q : List V → Hp → Prop} (q : t σ H Q) : tSK X kws σ H Q := fun pos pins s I => h.run pos pins s σ H Q I q
theorem wk_nil {Q : List SV → G → Prop} (q : Q [] g) : WK X W [] ρ g Q := fun σ H S Q' q' => tk_of pk_nil (q' [] H ⟨[], g, S.ok, Ext.refl g H, rfl, q⟩)
theorem wk_cons {Q : List SV → G → Prop} (h : WE X W e ρ g fun x g1 => WK X W kws ρ g1 fun xs g2 => Q (x :: xs) g2) : WK X W (⟨nm, e, kp⟩ :: kws) ρ g Q := fun σ H S Q' q' => by
  refine tk_of (pk_cons pe_s pk_s) ?_
  exact h σ H S _ fun vx H1 ⟨x, g1, k1, e1, r1, h1⟩ => h1 σ H1 (S.ext k1 e1) _ fun vs H2 ⟨xs, g2, k2, e2, r2, h2⟩ => q' _ H2 ⟨x :: xs, g2, k2, e1.trans e2, ⟨vx, vs, rfl, r1.ext e2, r2⟩, h2⟩
theorem _root_.EV.WK.imp {Q Q1 : List SV → G → Prop} (k : WK X W kws ρ g Q) (h : ∀ r g', Q r g' → Q1 r g') : WK X W kws ρ g Q1 := fun σ H S Q' q => k σ H S Q' fun v H' ⟨rs, g', a1, a2, a3, a4⟩ => q v H' ⟨rs, g', a1, a2, a3, h _ _ a4⟩
end
/-! ### arguments in order -/
theorem arr_reps {W : Wd} {H : Hp} {g : G} {xs ds : List SV} {us its : List V} (r : RepSs W H g xs us) (q : RepSs W H g ds its) : ∀ src : List (Nat ⊕ Nat), RepSs W H g (arr src xs ds) (arr src us its)
  | [] => rfl
  | .inl i :: src => by
    have ih := arr_reps r q src
    unfold arr at ih ⊢
    rw [List.filterMap_cons, List.filterMap_cons]
    cases e : xs[i]? with
    | none =>
      have e2 : us[i]? = none := by rw [List.getElem?_eq_none_iff] at e ⊢; rw [← r.length]; exact e
      dsimp only; rw [e, e2]; exact ih
    | some x =>
      obtain ⟨u, hu, ru⟩ := r.get e
      dsimp only
      rw [e, hu]
      exact ⟨_, _, rfl, ru, ih⟩
  | .inr i :: src => by
    have ih := arr_reps r q src
    unfold arr at ih ⊢
    rw [List.filterMap_cons, List.filterMap_cons]
    cases e : ds[i]? with
    | none =>
      have e2 : its[i]? = none := by rw [List.getElem?_eq_none_iff] at e ⊢; rw [← q.length]; exact e
      dsimp only; rw [e, e2]; exact ih
    | some x =>
      obtain ⟨u, hu, ru⟩ := q.get e
      dsimp only
      rw [e, hu]
      exact ⟨_, _, rfl, ru, ih⟩
theorem arr_rel {ν : List Addr} {xs svs ds : List SV} (r : RelL ν xs svs) (q : RelL ν ds ds) : ∀ src : List (Nat ⊕ Nat), RelL ν (arr src xs ds) (arr src svs ds)
  | [] => .nil
  | .inl i :: src => by
    have ih := arr_rel r q src
    unfold arr at ih ⊢
    rw [List.filterMap_cons, List.filterMap_cons]
    cases e : xs[i]? with
    | none =>
      have e2 : svs[i]? = none := by rw [List.getElem?_eq_none_iff] at e ⊢; rw [← plen r]; exact e
      dsimp only; rw [e, e2]; exact ih
    | some x =>
      obtain ⟨u, hu, ru⟩ := pget r e
      dsimp only
      rw [e, hu]
      exact .cons ru ih
  | .inr i :: src => by
    have ih := arr_rel r q src
    unfold arr at ih ⊢
    rw [List.filterMap_cons, List.filterMap_cons]
    cases e : ds[i]? with
    | none => dsimp only; rw [e]; exact ih
    | some x =>
      obtain ⟨u, hu, ru⟩ := pget q e
      rw [e] at hu; cases hu
      dsimp only
      rw [e]
      exact .cons ru ih
section
variable {T : Tab} {A : Adr} {W : Wd} {C : CC}
theorem callK_len {k f : Nat} {d : DefI} {xs : List SV} {M : MS} {r : SV × MS} (hd : T.defs[f]? = some d) (h : callK T.dfs k f xs M = some r) : xs.length = d.ps.length := by
  cases k with
  | zero => unfold callK at h; cases h
  | succ k => obtain ⟨v, M'⟩ := r; exact (callK_inv hd h).1
theorem anyC_len {k f : Nat} {d : DefI} {sh : Bool} {xs : List SV} {M : MS} {r : SV × MS} (hd : T.defs[f]? = some d) (h : anyC (callK T.dfs k) sh f xs M = some r) : xs.length = d.ps.length := by
  unfold anyC at h
  cases sh with
  | true => rw [if_pos rfl] at h; exact callK_len hd h
  | false =>
    rw [if_neg (by decide)] at h
    obtain ⟨v, M'⟩ := r
    obtain ⟨ds, r, M1, x, rfl, h1, _⟩ := pure_inv h
    exact callK_len hd h1
theorem mkC_len {k f kc : Nat} {d : DefI} {sh : Bool} {xs : List SV} {M : MS} {r : SV × MS} (hd : T.defs[f]? = some d) (h : (if sh then match callK T.dfs k f (.ob M.length :: xs) (M ++ [some (.ins kc [])]) with
      | some (.d .non, M1) => some (SV.ob M.length, M1)
      | _ => none
    else pureMk (callK T.dfs k) kc f xs M) = some r) : xs.length + 1 = d.ps.length := by
  cases sh with
  | true =>
    rw [if_pos rfl] at h
    split at h
    · rename_i M1 e
      have := callK_len hd e
      rw [List.length_cons] at this; exact this
    · cases h
  | false =>
    rw [if_neg (by decide)] at h
    unfold pureMk at h
    split at h
    · rename_i ds e
      split at h
      · rename_i M1 e2
        have := callK_len hd e2
        rw [allD_eq e]
        rw [List.length_cons] at this; exact this
      · cases h
    · cases h
def SK (T : Tab) (A : Adr) (W : Wd) (C : CC) (kws : List Keyword) (r : IAs) : Prop := ∀ k X, Good T A W C k X → ∀ ρ M vs M', evA (callK T.dfs k) r ρ M = some (vs, M') → ∀ ν g ρR, Cfg ν M g → RelR ν ρ ρR → WK X W kws ρR g (PL ν M g vs M')
variable {pos p apos kp : Pos} {a e o : Expr} {es : List Expr} {kws : List Keyword} {ra : IE} {ras ras2 : IAs} {nm : Option Str} {ks : List Str}
theorem sk_nil : SK T A W C [] .nil := fun k X G ρ M v M' he ν g ρR Cf R => by
  unfold evA at he; cases he
  exact wk_nil ⟨ν, Nxt.refl Cf, .nil⟩
theorem sk_cons (ha : SE T A W C a ra) (hb : SK T A W C kws ras) : SK T A W C (⟨nm, a, kp⟩ :: kws) (.cons ra ras) := fun k X G ρ M v M' he ν g ρR Cf R => by
  unfold evA at he
  obtain ⟨⟨x, M1⟩, h1, h2⟩ := bind_inv he
  obtain ⟨⟨xs, M2⟩, h3, h4⟩ := bind_inv h2
  cases h4
  exact wk_cons ((ha k X G ρ M x M1 h1 ν g ρR Cf R).imp fun sx g1 ⟨ν1, N1, r1⟩ => (hb k X G ρ M1 xs _ h3 ν1 g1 ρR N1.cfg (N1.rr R)).imp fun sxs g2 ⟨ν2, N2, r2⟩ => ⟨ν2, N1.trans N2, .cons (N2.rs r1) r2⟩)
/-! ### f(k = e, ..) -/
section
variable {X : Cx} {CX : CXT} {k : Nat} {f c : Addr} {fd : FuncData} {ps : List Str} {sp : Sp} {E : XK} {x m : Str} {ta : TE} {tk : TA} {gg : List Value → List Value → List Value} {gV : List V → List V → List V}
theorem pe_kcall (F : FnOk X.prog X.w X.K X.mg X.base CX k f fd ps sp) (hr : Room k X.A) (hg : Gl X x) (hm : X.mg x = some (.ref f)) (hk : PySem.W.keepIn X.K (.ref f) = true) (hb : KBn X.K fd ps 0 ks gg gV) (hx : Passes CX X E) (hkw : PK X kws tk) (kf : KwF kws ks pos X.env) (hdb : (x == ("__debug__" : Str)) = false) :
    PE X (.Call (.Name x p) [] kws pos) (fun σ H Q => tk σ H fun zs H2 => zs.length = ks.length ∧ sp (gV [] zs) H2 Q E) := by
  refine ⟨fun pins s σ H Q I h => ?_⟩
  refine wpAny_Call_Name_kw (ld_glob I hg hm ?_ hdb)
  refine PySem.W.callWith_KW0 (h₀ := X.base) I.ok.mod.kin hk kf.all (thn (hkw.run pos pins s σ H _ I h) fun ws s2 ⟨zs, H2, I2, rz, l2, q2⟩ => ⟨I2.kIn, ?_⟩) (by rw [kf.plain]; rfl)
  rw [kf.names]
  exact run_fnN (us := []) (vs := []) F hr hb hx I2 .nil rz rfl l2 q2
theorem pe_kmeth {pl : Sem Bool} (he : PE X o ta) (c1 : Cls X.K c) (hm : Meth X.K c m f) (F : FnOk X.prog X.w X.K X.mg X.base CX k f fd ps sp) (hr : Room k X.A) (hb : KBn X.K fd ps 1 ks gg gV) (hx : Passes CX X E) (hkw : PK X kws tk) (kf : KwF kws ks pos X.env)
    (ht : eval (.Call (.Attribute o m apos) [] kws pos) X.env = (do
      let ov ← eval o X.env
      standAt apos.atName
      let (f, first) ← holding [ov] (getMethod ov m pl)
      callWith pos f first (backTo pos (starEach [] X.env)) (backToKw pos (keywordEach kws X.env)))) :
    PE X (.Call (.Attribute o m apos) [] kws pos) (fun σ H Q => ta σ H fun x H1 => ∃ a dx fs, x = .ref a ∧ H1 a = some (.ins c dx fs) ∧ fs.lookup m = none ∧ tk σ H1 fun zs H2 => zs.length = ks.length ∧ sp (gV [.ref a] zs) H2 Q E) := by
  refine ⟨fun pins s σ H Q I h => ?_⟩
  refine PySem.W.methodCall_KW (pl := pl) (thn (he.run pins s σ H _ I h) fun u s1 ⟨x, H1, I1, rx, a, dx, fs, ex, ea, l, q⟩ => ?_) ht
  subst ex
  obtain rfl : u = Value.ref a := rx
  refine getmeth_ok I1 ea c1 hm l ?_
  refine PySem.W.callWith_KW0 (first := [.ref a]) (h₀ := X.base) I.ok.mod.kin hm.kp kf.all (thn (hkw.run pos pins s1 σ H1 _ I1 q) fun ws s2 ⟨zs, H2, I2, rz, l2, q2⟩ => ⟨I2.kIn, ?_⟩) (by rw [kf.plain]; rfl)
  rw [kf.names]
  exact run_fnN (us := [.ref a]) (vs := [.ref a]) F hr hb hx I2 (.cons rfl .nil) rz rfl l2 q2
end
theorem zs_len {k : Nat} {ρ : Rho} {M M' : MS} {xs svs : List SV} {zs : List V} {ν : List Addr} {H : Hp} {g : DL.G} (h : evA (callK T.dfs k) ras ρ M = some (xs, M')) (hl : lenA ras = ks.length) (rl : RelL ν xs svs) (r : RepSs W H g svs zs) : zs.length = ks.length := by
  rw [← r.length, ← plen rl, evA_len h, hl]
theorem se_kcall {x : Str} {f : Nat} {d : DefI} {src : List (Nat ⊕ Nat)} {dv : List D} {sh : Bool} (hg : globB C x = true) (hf : (x, f) ∈ T.globs) (hd : T.defs[f]? = some d) (hb : (⟨f, 0, 0, ks, src⟩ : KB) ∈ T.kbnds) (hdv : dv = d.dvs) (hk : kwNames kws = some ks) (hl : lenA ras = ks.length) (ha : SK T A W C kws ras) : SE T A W C (.Call (.Name x p) [] kws pos) (.kcall f src dv sh ras) := fun k X G ρ M v M' he ν g ρR Cf R => by
  unfold evE at he
  obtain ⟨⟨xs, M1⟩, h1, h2⟩ := bind_inv he
  obtain ⟨gl, hdb⟩ := G.gl hg
  obtain ⟨hm, hkp⟩ := G.fct.glob x f hf
  obtain ⟨dvs, its, kb, q3⟩ := G.fct.kbnd _ d hb hd
  subst hdv
  have F := G.fnok hd
  rw [← G.hK] at kb hkp
  refine we_any (sh := sh) ?_
  intro σ H S' Q' q'
  refine ts_of (pe_kcall (E := E0) F G.room gl hm hkp kb pass0 pk_s (kw_f hk) hdb) ?_
  refine ha k X G ρ M xs M1 h1 ν g ρR Cf R σ H S' _ fun zs H2 ⟨svs, g2, k2, e2, r2, ν2, N2, rl⟩ => ?_
  have rr := arr_reps r2 (q3 H2 g2 k2) src
  have rl2 := arr_rel rl (relL_dd d.dvs) src
  refine ⟨zs_len h1 hl rl r2, ?_, arr src svs (d.dvs.map SV.d), g2, _, rr, k2, any_sp h2 N2.cfg rl2 fun s g' p => p.back N2, fun v H' z => q' v H' (z.back e2)⟩
  show (arr src zs dvs).length = d.ps.length
  rw [← rr.length, ← plen rl2]
  exact anyC_len hd h2
/-! ### C(k = e, ..) -/
theorem se_kmake {x : Str} {c f : Nat} {d : DefI} {src : List (Nat ⊕ Nat)} {dv : List D} {sh : Bool} (hg : globB C x = true) (hc : (x, c) ∈ T.cnames) (hi : (c, f) ∈ T.inits) (hd : T.defs[f]? = some d) (hb : (⟨f, 1, 0, ks, src⟩ : KB) ∈ T.kbnds) (hdv : dv = d.dvs) (hk : kwNames kws = some ks) (hl : lenA ras = ks.length) (ha : SK T A W C kws ras) : SE T A W C (.Call (.Name x p) [] kws pos) (.kmake c f src dv sh ras) := fun k X G ρ M v M' he ν g ρR Cf R => by
  unfold evE at he
  obtain ⟨⟨xs, M1⟩, h1, h2⟩ := bind_inv he
  obtain ⟨gl, hdb⟩ := G.gl hg
  obtain ⟨hm, _⟩ := G.fct.cname x c hc
  obtain ⟨dvs, its, kb, q3⟩ := G.fct.kbnd _ d hb hd
  subst hdv
  have F := G.fnokM hd
  have MK := G.fct.init c f hi
  rw [← G.hK] at kb MK
  have kf := kw_f (pos := pos) (env := X.env) hk
  refine we_any (sh := sh) ?_
  intro σ H S' Q' q'
  refine ts_of (pe_makeK0 (E := E0) MK F G.room gl hm kb pass0 pk_s kf.all kf.names hdb (by rw [kf.plain]; rfl)) ?_
  refine ha k X G ρ M xs M1 h1 ν g ρR Cf R σ H S' _ fun zs H1 ⟨svs, g1, k1, e1, r1, ν1, N1, rl⟩ => ?_
  refine ⟨rfl, zs_len h1 hl rl r1, fun b dx na nd ne => ?_⟩
  have rl2 := arr_rel rl (relL_dd d.dvs) src
  have nx : upd H1 dx (.own b) b = none := by rw [upd_ne ne.symm]; exact na
  have e2 : Ext g1 H1 g1 (upd H1 dx (.own b)) := Ext.new nd
  have k2 : GOk W (upd H1 dx (.own b)) g1 := k1.new nd
  have e3 : Ext g1 (upd H1 dx (.own b)) (gset g1 b (.ins c [])) (upd (upd H1 dx (.own b)) b (.ins (W.cl c) dx [])) := Ext.newOb nx
  have k3 : GOk W (upd (upd H1 dx (.own b)) b (.ins (W.cl c) dx [])) (gset g1 b (.ins c [])) := k2.newOb (m := .ins c []) nx ⟨dx, [], upd_same, rfl⟩
  have r3 := arr_reps (r1.ext (e2.trans e3)) (q3 _ _ k3) src
  refine ⟨?_, .ob b :: arr src svs (d.dvs.map SV.d), _, _, ⟨.ref b, _, rfl, rfl, r3⟩, k3, mk_sp h2 N1.cfg rl2 (k1.free na) fun s g' p => p.back N1, fun v H' ⟨r, g', k4, e4, r4, hr, q⟩ => ?_⟩
  · show (arr src zs dvs).length + 1 = d.ps.length
    rw [← r3.length, ← plen rl2]
    exact mkC_len hd h2
  · subst hr
    exact ⟨r4, q' _ _ ⟨.ob b, g', k4, ((e1.trans e2).trans e3).trans e4, rfl, q⟩⟩
/-! ### o.m(k = e, ..) -/
theorem kmeth_ht {env : Env} {m : Str} (hb : baseB o = true) (hk : kwNames kws = some ks) (h20 : kws.length < 20) (hl : (apos.endLine == pos.line) = true) : eval (.Call (.Attribute o m apos) [] kws pos) env = (do
      let ov ← eval o env
      standAt apos.atName
      let (f, first) ← holding [ov] (getMethod ov m (do return (← importBound o env).getD true))
      callWith pos f first (backTo pos (starEach [] env)) (backToKw pos (keywordEach kws env))) := by
  have e1 : methodCallForm (([] : List Expr).length + kws.length) (backTo pos (starEach [] env)) (backToKw pos (keywordEach kws env)) = true := by
    have : ([] : List Expr).length + kws.length + (if (backToKw pos (keywordEach kws env)).isEmpty then 0 else 1) < 30 := by
      split <;> (rw [List.length_nil]; omega)
    show (true && (backToKw pos (keywordEach kws env)).all (·.1.isSome) && decide (([] : List Expr).length + kws.length + (if (backToKw pos (keywordEach kws env)).isEmpty then 0 else 1) < 30)) = true
    rw [(kw_f (pos := pos) (env := env) hk).all, decide_eq_true this]
    rfl
  show (do
    let ov ← attributeBase o m env (eval o env)
    standAt apos.atName
    methodCall o m apos pos env ov (([] : List Expr).length + kws.length) (backTo pos (starEach [] env)) (backToKw pos (keywordEach kws env))) = _
  rw [base_eq hb]
  unfold methodCall
  rw [e1]
  unfold calleeOf methodCallPos
  rw [hl]
  rfl
def KMeOk (T : Tab) (nm : Str) (ks : List Str) (src : List (Nat ⊕ Nat)) (dv : List D) : List (Nat × Nat) → Prop
  | [] => True
  | (c, f) :: m => (c ∈ T.clss ∧ (c, nm, f) ∈ T.meths ∧ (⟨f, 1, 0, ks, src⟩ : KB) ∈ T.kbnds ∧ ∃ d, T.defs[f]? = some d ∧ dv = d.dvs) ∧ KMeOk T nm ks src dv m
theorem km_nil {nm : Str} {src : List (Nat ⊕ Nat)} {dv : List D} : KMeOk T nm ks src dv [] := True.intro
theorem km_cons {nm : Str} {src : List (Nat ⊕ Nat)} {dv : List D} {c f : Nat} {m : List (Nat × Nat)} (h1 : c ∈ T.clss) (h2 : (c, nm, f) ∈ T.meths) (h3 : (⟨f, 1, 0, ks, src⟩ : KB) ∈ T.kbnds) (h4 : ∃ d, T.defs[f]? = some d ∧ dv = d.dvs) (h5 : KMeOk T nm ks src dv m) : KMeOk T nm ks src dv ((c, f) :: m) := ⟨⟨h1, h2, h3, h4⟩, h5⟩
theorem kme_ok {nm : Str} {src : List (Nat ⊕ Nat)} {dv : List D} {c f : Nat} : ∀ {m : List (Nat × Nat)}, KMeOk T nm ks src dv m → m.lookup c = some f → c ∈ T.clss ∧ (c, nm, f) ∈ T.meths ∧ (⟨f, 1, 0, ks, src⟩ : KB) ∈ T.kbnds ∧ ∃ d, T.defs[f]? = some d ∧ dv = d.dvs
  | [], _, h => by cases h
  | (k, j) :: m, ⟨h1, h2⟩, h => by
    rw [List.lookup_cons] at h
    cases z : c == k with
    | true =>
      rw [z] at h
      cases h
      have : c = k := by simpa using z
      subst this
      exact h1
    | false => rw [z] at h; exact kme_ok h2 h
theorem se_kmeth {m : Str} {tb : List (Nat × Nat)} {src : List (Nat ⊕ Nat)} {dv : List D} {sh : Bool} (hm : KMeOk T m ks src dv tb) (hk : kwNames kws = some ks) (hl : lenA ras = ks.length) (hb : baseB o = true) (hll : (apos.endLine == pos.line) = true) (h20 : kws.length < 20) (h0 : SE T A W C o ra) (ha : SK T A W C kws ras) : SE T A W C (.Call (.Attribute o m apos) [] kws pos) (.kmeth m tb src dv sh ra ras) := fun k X G ρ M v M' he ν g ρR Cf R => by
  unfold evE at he
  obtain ⟨⟨x, M1⟩, h1, h2⟩ := bind_inv he
  obtain ⟨hf, h2⟩ := if_inv h2
  obtain ⟨c, h3, h4⟩ := bind_inv h2
  obtain ⟨f, h5, h6⟩ := bind_inv h4
  obtain ⟨⟨xs, M2⟩, h7, h8⟩ := bind_inv h6
  obtain ⟨m1, m2, m3, d, hd, hdv⟩ := kme_ok hm h5
  obtain ⟨dvs, its, kb, q3⟩ := G.fct.kbnd _ d m3 hd
  subst hdv
  have F := G.fnok hd
  have mt := G.fct.meth _ _ _ m2
  have c1 := (G.fct.cls c m1).c
  rw [← G.hK] at kb mt c1
  refine we_any (sh := sh) ?_
  intro σ H S' Q' q'
  refine ts_of (pe_kmeth (E := E0) pe_s c1 mt F G.room kb pass0 pk_s (kw_f hk) (kmeth_ht hb hk h20 hll)) ?_
  refine h0 k X G ρ M x M1 h1 ν g ρR Cf R σ H S' _ fun v1 H1 ⟨sx, g1, k1, e1, r1, ν1, N1, rs⟩ => ?_
  obtain ⟨b, dx, fs, rfl, hb1, hn⟩ := (insOf_rel (W := W) N1.cfg h3 hf rs).at k1 r1
  refine ⟨b, dx, fs, rfl, hb1, hn, ?_⟩
  refine ha k X G ρ M1 xs M2 h7 ν1 g1 ρR N1.cfg (N1.rr R) σ H1 (S'.ext k1 e1) _ fun zs H2 ⟨svs, g2, k2, e2, r2, ν2, N2, rl⟩ => ?_
  have rr := arr_reps r2 (q3 H2 g2 k2) src
  have rl2 := arr_rel rl (relL_dd d.dvs) src
  have r4 : RepSs W H2 g2 (sx :: arr src svs (d.dvs.map SV.d)) (.ref b :: arr src zs dvs) := ⟨_, _, rfl, r1.ext e2, rr⟩
  refine ⟨zs_len h7 hl rl r2, ?_, sx :: arr src svs (d.dvs.map SV.d), g2, _, r4, k2, any_sp h8 N2.cfg (.cons (N2.rs rs) rl2) fun s g' p => (p.back N2).back N1, fun v H' z => q' v H' (z.back (e1.trans e2))⟩
  show (V.ref b :: arr src zs dvs).length = d.ps.length
  rw [← r4.length]
  have := anyC_len hd h8
  rw [List.length_cons] at this ⊢
  rw [← plen rl2]; exact this
end
end EV

set_option autoImplicit false
/-! a dict of two texts, written; C(e, .., k = e, ..) -/
namespace EV
open PySem PySem.Spec PyProof.Rows L2 DL
section
variable {T : Tab} {A : Adr} {W : Wd} {C : CC}
variable {pos p apos kp : Pos} {a b e o : Expr} {es : List Expr} {kws : List Keyword} {ra rb : IE} {ras rbs : IAs} {ks : List Str}
theorem merge2 {k1 k2 : Str} {x y : V} (h : k1 ≠ k2) : mergeK [] ([(.inr k1, x), (.inr k2, y)] : List (Key × V)) = ([(.inr k1, x), (.inr k2, y)] : List (Key × V)) := by
  show putK (putK ([] : List (Key × V)) (Sum.inr k1) x) (Sum.inr k2) y = _
  have e1 : putK ([] : List (Key × V)) (.inr k1) x = ([(.inr k1, x)] : List (Key × V)) := rfl
  rw [e1]
  unfold putK
  have e2 : (([(.inr k1, x)] : List (Key × V)).any fun kv => decide (kv.1 = .inr k2)) = false := by
    show (decide ((.inr k1 : Key) = .inr k2) || false) = false
    rw [Bool.or_false]
    exact decide_eq_false fun z => h (Sum.inr.inj z)
  rw [e2]
  rfl
theorem se_ddisp2 {k1 k2 : Str} {j1 j2 : Nat} {p1 p2 : Pos} (ha : SE T A W C a ra) (hb : SE T A W C b rb) : SE T A W C (.Dict [some (.Constant (.str k1) j1 p1), some (.Constant (.str k2) j2 p2)] [a, b] pos) (.ddisp2 k1 k2 ra rb) := fun k X G ρ M v M' he ν g ρR Cf R => by
  unfold evE at he
  obtain ⟨⟨x, M1⟩, h1, h2⟩ := bind_inv he
  obtain ⟨⟨y, M2⟩, h3, h4⟩ := bind_inv h2
  dsimp only at h4
  split at h4
  · rename_i kvs hob
    obtain ⟨⟨hk, hem⟩, h5⟩ := if_inv h4
    clear h4
    have hem : kvs = [] := by cases kvs with | nil => rfl | cons c t => cases hem
    subst hem
    cases h5
    intro σ H S' Q' q'
    refine ts_of (pe_disp (pps_cons pe_s pe_s (pps_cons pe_s pe_s pps_nil)) rfl rfl (by intro h; cases h) (by show 2 ≤ 15; decide)) ?_
    intro p hp
    have gp : g p = none := S'.ok.free hp
    have x0 : Ext g H (gset g p (.dct [])) (upd H p (.dK [])) := Ext.newOb hp
    have k0 : GOk W (upd H p (.dK [])) (gset g p (.dct [])) := S'.ok.newOb (m := .dct []) hp ⟨[], upd_same, rfl⟩
    have N0 := Nxt.new (o := .dct []) (u := .dct []) Cf gp Paired.nil
    have R0 := N0.rr R
    have S0 := S'.ext k0 x0
    have rp : RelS (ν ++ [p]) (.ob M.length) (.ob p) := by
      show (ν ++ [p])[M.length]? = some p
      rw [← Cf.len]; simp
    refine se_str (T := T) (A := A) (W := W) (C := C) k X G ρ (M ++ [some (.dct [])]) (.d (.str k1)) (M ++ [some (.dct [])]) (by unfold evE; rfl) (ν ++ [p]) (gset g p (.dct [])) ρR N0.cfg R0 σ _ S0 _ fun v1 H1 ⟨s1, g1, kk1, x1, r1, ν1, N1, q1⟩ => ?_
    cases relS_d q1
    cases (show v1 = .str k1 from r1)
    refine ha k X G ρ _ x M1 h1 ν1 g1 ρR N1.cfg (N1.rr R0) σ H1 (S0.ext kk1 x1) _ fun vx H2 ⟨sx, g2, kk2, x2, r2, ν2, N2, q2⟩ => ?_
    refine se_str (T := T) (A := A) (W := W) (C := C) k X G ρ M1 (.d (.str k2)) M1 (by unfold evE; rfl) ν2 g2 ρR N2.cfg (N2.rr (N1.rr R0)) σ H2 (S0.ext kk2 (x1.trans x2)) _ fun v3 H3 ⟨s3, g3, kk3, x3, r3, ν3, N3, q3⟩ => ?_
    cases relS_d q3
    cases (show v3 = .str k2 from r3)
    refine hb k X G ρ M1 y M2 h3 ν3 g3 ρR N3.cfg (N3.rr (N2.rr (N1.rr R0))) σ H3 (S0.ext kk3 ((x1.trans x2).trans x3)) _ fun vy H4 ⟨sy, g4, kk4, x4, r4, ν4, N4, q4⟩ => ?_
    have rp4 : RelS ν4 (.ob M.length) (.ob p) := N4.rs (N3.rs (N2.rs (N1.rs rp)))
    obtain ⟨a1, u, e1, ha1, hu, hr⟩ := N4.cfg.obj hob rp4
    cases e1
    cases u <;> first | exact False.elim hr | skip
    rename_i gs
    have hr : RelF ν4 [] gs := hr
    cases hr
    obtain ⟨xs, hx, rx⟩ := kk4 p _ hu
    cases (show xs = [] from rx)
    have rv2 : RepS W H4 g4 sx vx := (r2.ext x3).ext x4
    have x5 : Ext g4 H4 (gset g4 p (.dct [(.inr k1, sx), (.inr k2, sy)])) (upd H4 p (.dK [(.inr k1, vx), (.inr k2, vy)])) := Ext.mut hu
    have k5 : GOk W (upd H4 p (.dK [(.inr k1, vx), (.inr k2, vy)])) (gset g4 p (.dct [(.inr k1, sx), (.inr k2, sy)])) :=
      kk4.mut hu ⟨[(.inr k1, vx), (.inr k2, vy)], upd_same, ⟨vx, _, rfl, rv2.ext x5, vy, _, rfl, r4.ext x5, rfl⟩⟩
    refine ⟨hx, [(.inr k1, vx), (.inr k2, vy)], rfl, by show 2 ≤ 15; decide, ?_⟩
    rw [merge2 hk]
    have xx := ((((x0.trans x1).trans x2).trans x3).trans x4).trans x5
    have NN := (((N0.trans N1).trans N2).trans N3).trans N4
    refine q' _ _ ⟨.ob p, _, k5, xx, rfl, ν4, NN.trans (Nxt.put N4.cfg hob ha1 (show RelO ν4 (.dct [(.inr k1, x), (.inr k2, y)]) (.dct [(.inr k1, sx), (.inr k2, sy)]) from .cons ⟨rfl, N4.rs (N3.rs q2)⟩ (.cons ⟨rfl, q4⟩ .nil))), rp4⟩
  · cases h4
/-! ### C(e, .., k = e, ..) -/
theorem evA_app {c : Call} : ∀ {as bs : IAs} {ρ : Rho} {M M' : MS} {vs : List SV}, evA c (appA as bs) ρ M = some (vs, M') → ∃ xs M1 ys, evA c as ρ M = some (xs, M1) ∧ evA c bs ρ M1 = some (ys, M') ∧ vs = xs ++ ys
  | .nil, bs, ρ, M, M', vs, h => ⟨[], M, vs, by unfold evA; rfl, h, rfl⟩
  | .cons a as, bs, ρ, M, M', vs, h => by
    unfold appA evA at h
    obtain ⟨⟨x, M1⟩, h1, h2⟩ := bind_inv h
    obtain ⟨⟨xs, M2⟩, h3, h4⟩ := bind_inv h2
    cases h4
    obtain ⟨us, M3, ys, e1, e2, rfl⟩ := evA_app h3
    exact ⟨x :: us, M3, ys, by unfold evA; rw [h1]; dsimp only [Option.bind_some]; rw [e1]; rfl, e2, rfl⟩
theorem se_kmakeP {x : Str} {c f n : Nat} {d : DefI} {src : List (Nat ⊕ Nat)} {dv : List D} {sh : Bool} (hg : globB C x = true) (hc : (x, c) ∈ T.cnames) (hi : (c, f) ∈ T.inits) (hd : T.defs[f]? = some d) (hb : (⟨f, 1, n, ks, src⟩ : KB) ∈ T.kbnds) (hdv : dv = d.dvs) (hk : kwNames kws = some ks) (hl : lenA rbs = ks.length) (hn : lenA ras = n) (hna : nsB a = true) (hs : es.all nsB = true) (ha : SA T A W C (a :: es) ras) (hkw : SK T A W C kws rbs) : SE T A W C (.Call (.Name x p) (a :: es) kws pos) (.kmake c f src dv sh (appA ras rbs)) := fun k X G ρ M v M' he ν g ρR Cf R => by
  unfold evE at he
  obtain ⟨⟨zs0, M2⟩, h0, h2⟩ := bind_inv he
  obtain ⟨xs, M1, ys, h1, h3, rfl⟩ := evA_app h0
  obtain ⟨gl, hdb⟩ := G.gl hg
  obtain ⟨hm, _⟩ := G.fct.cname x c hc
  obtain ⟨dvs, its, kb, q3⟩ := G.fct.kbnd _ d hb hd
  subst hdv
  have F := G.fnokM hd
  have MK := G.fct.init c f hi
  rw [← G.hK] at kb MK
  rw [Nat.add_comm] at kb
  have kf := kw_f (pos := pos) (env := X.env) hk
  have pl0 : (backTo pos (starEach (a :: es) X.env)).any (·.1) = false := by
    rw [star_ns hna]
    show (false || (backTo pos (starEach es X.env)).any (·.1)) = false
    rw [star_all hs]; rfl
  refine we_any (sh := sh) ?_
  intro σ H S' Q' q'
  refine ts_of (pe_makeK (E := E0) MK F G.room gl hm kb pass0 pa_s pk_s kf.all kf.names hdb (star_ns hna) (by rw [pl0, kf.plain]; rfl)) ?_
  refine ha k X G ρ M xs M1 h1 ν g ρR Cf R σ H S' _ fun vs H0 ⟨sus, g0, k0, e0, r0, ν0, N0, rl0⟩ => ?_
  refine hkw k X G ρ M1 ys M2 h3 ν0 g0 ρR N0.cfg (N0.rr R) σ H0 (S'.ext k0 e0) _ fun zs H1 ⟨svs, g1, k1, e1, r1, ν1, N1, rl⟩ => ?_
  have len0 : vs.length = n := by rw [← r0.length, ← plen rl0, evA_len h1, hn]
  refine ⟨len0, zs_len h3 hl rl r1, fun b dx na nd ne => ?_⟩
  have rla : RelL ν1 (xs ++ ys) (sus ++ svs) := papp (N1.rl rl0) rl
  have rl2 := arr_rel rla (relL_dd d.dvs) src
  have nx : upd H1 dx (.own b) b = none := by rw [upd_ne ne.symm]; exact na
  have e2 : Ext g1 H1 g1 (upd H1 dx (.own b)) := Ext.new nd
  have k2 : GOk W (upd H1 dx (.own b)) g1 := k1.new nd
  have e3 : Ext g1 (upd H1 dx (.own b)) (gset g1 b (.ins c [])) (upd (upd H1 dx (.own b)) b (.ins (W.cl c) dx [])) := Ext.newOb nx
  have k3 : GOk W (upd (upd H1 dx (.own b)) b (.ins (W.cl c) dx [])) (gset g1 b (.ins c [])) := k2.newOb (m := .ins c []) nx ⟨dx, [], upd_same, rfl⟩
  have ra : RepSs W H1 g1 (sus ++ svs) (vs ++ zs) := (r0.ext e1).append r1
  have r3 := arr_reps (ra.ext (e2.trans e3)) (q3 _ _ k3) src
  refine ⟨?_, .ob b :: arr src (sus ++ svs) (d.dvs.map SV.d), _, _, ⟨.ref b, _, rfl, rfl, r3⟩, k3, mk_sp h2 N1.cfg rl2 (k1.free na) fun s g' p => (p.back N1).back N0, fun v H' ⟨r, g', k4, e4, r4, hr, q⟩ => ?_⟩
  · show (arr src (vs ++ zs) dvs).length + 1 = d.ps.length
    rw [← r3.length, ← plen rl2]
    exact mkC_len hd h2
  · subst hr
    exact ⟨r4, q' _ _ ⟨.ob b, g', k4, (((e0.trans e1).trans e2).trans e3).trans e4, rfl, q⟩⟩
end
end EV

set_option autoImplicit false
/-! sets of nested tuples; zip of tuples -/
namespace EV
open PySem PySem.Spec PyProof.Rows L2 DL DLN
section
variable {W : Wd} {H : Hp} {g : G}
mutual
theorem keyV_of : ∀ (d : D) (k : NestedKey) (v : V), keyN d = some k → Rep W H g d v → KeyV W.K H k v ∧ noTxt k = true
  | .non, k, v, h, r => by cases h; exact ⟨r, rfl⟩
  | .bl b, k, v, h, r => by cases h; exact ⟨.inr ⟨b, r, rfl⟩, rfl⟩
  | .int i, k, v, h, r => by cases h; exact ⟨.inl r, rfl⟩
  | .tup l, k, v, h, r => by
    obtain ⟨ks, h1, rfl⟩ := map_inv (show (keyNs l).map NestedKey.tup = some k from h)
    obtain ⟨a, xs, rfl, h2, h3⟩ := r
    obtain ⟨q1, q2⟩ := keysV_of l ks xs h1 h3
    exact ⟨⟨a, xs, rfl, h2.sq, q1⟩, q2⟩
  | .str s, k, v, h, r => by cases h
  | .lst l, k, v, h, r => by cases h
  | .fl l, k, v, h, r => by cases h
  | .cls c, k, v, h, r => by cases h
  | .ins c fs, k, v, h, r => by cases h
theorem keysV_of : ∀ (l : List D) (ks : List NestedKey) (xs : List V), keyNs l = some ks → Reps W H g l xs → KeysV W.K H ks xs ∧ noTxts ks = true
  | [], ks, xs, h, r => by cases h; exact ⟨r, rfl⟩
  | d :: l, ks, xs, h, r => by
    obtain ⟨k, h1, h2⟩ := bind_inv (show (keyN d).bind (fun k => (keyNs l).map (k :: ·)) = some ks from h)
    obtain ⟨ks', h3, rfl⟩ := map_inv h2
    obtain ⟨x, r', rfl, r1, r2⟩ := r
    obtain ⟨q1, q2⟩ := keyV_of d k x h1 r1
    obtain ⟨q3, q4⟩ := keysV_of l ks' r' h3 r2
    exact ⟨⟨x, r', rfl, q1, q3⟩, by show (noTxt k && noTxts ks') = true; rw [q2, q4]; rfl⟩
end
theorem krep_keys : ∀ {L : List (Addr × NestedKey)} {ds : List D}, KRep W H g L ds → (∀ q ∈ L, KeyO W.K H q.2 q.1) ∧ ∀ k, decide (k ∈ L.map (·.2)) = nsHas k ds
  | [], _, h => by cases (show _ = [] from h); exact ⟨(fun q m => by cases m), fun k => rfl⟩
  | q :: L, _, h => by
    obtain ⟨d, r, rfl, ⟨h1, h2, h3⟩, h4⟩ := h
    obtain ⟨i1, i2⟩ := krep_keys h4
    obtain ⟨q1, q2⟩ := keyV_of d q.2 _ h2 h1
    refine ⟨fun p m => ?_, fun k => ?_⟩
    · rcases List.mem_cons.mp m with rfl | m
      · exact ⟨q1, h3, q2⟩
      · exact i1 p m
    · show decide (k ∈ q.2 :: L.map (·.2)) = (decide (keyN d = some k) || nsHas k r)
      rw [← i2 k, h2]
      by_cases z : k = q.2
      · subst z; simp
      · have z2 : ¬ q.2 = k := fun e => z e.symm
        simp [z, z2]
theorem krep_perm {L L2 : List (Addr × NestedKey)} (p : L2.Perm L) : ∀ {ds : List D}, KRep W H g L ds → ∃ es : List D, es.Perm ds ∧ KRep W H g L2 es := by
  induction p with
  | nil => exact fun {ds} h => ⟨ds, .refl _, h⟩
  | cons x _ ih =>
    intro ds h
    obtain ⟨d, r, rfl, h1, h4⟩ := h
    obtain ⟨es, p1, h5⟩ := ih h4
    exact ⟨d :: es, p1.cons d, d, es, rfl, h1, h5⟩
  | swap x y l =>
    intro ds h
    obtain ⟨d, r, rfl, h1, d2, r2, rfl, h2, h4⟩ := h
    exact ⟨d2 :: d :: r2, List.Perm.swap d d2 r2, d2, _, rfl, h2, d, r2, rfl, h1, h4⟩
  | trans _ _ ih1 ih2 =>
    intro ds h
    obtain ⟨es, p1, h1⟩ := ih2 h
    obtain ⟨fs, p2, h2⟩ := ih1 h1
    exact ⟨fs, p2.trans p1, h2⟩
theorem krep_len : ∀ {L : List (Addr × NestedKey)} {ds : List D}, KRep W H g L ds → L.length = ds.length
  | [], _, h => by cases (show _ = [] from h); rfl
  | q :: L, _, h => by
    obtain ⟨d, r, rfl, _, h4⟩ := h
    exact congrArg (· + 1) (krep_len h4)
end
theorem nsHas_perm {k : NestedKey} {ds es : List D} (p : ds.Perm es) : nsHas k ds = nsHas k es := by
  unfold nsHas
  apply Bool.eq_iff_iff.mpr
  rw [List.any_eq_true, List.any_eq_true]
  exact ⟨fun ⟨x, h1, h2⟩ => ⟨x, p.mem_iff.mp h1, h2⟩, fun ⟨x, h1, h2⟩ => ⟨x, p.mem_iff.mpr h1, h2⟩⟩
theorem nsOf_inv {M : MS} {v : SV} {ds : List D} (h : nsOf M v = some ds) : ∃ i, v = .ob i ∧ obj M i = some (.nset ds) := by
  unfold nsOf at h
  split at h
  · rename_i i
    split at h
    · cases h; exact ⟨i, rfl, by assumption⟩
    · cases h
  · cases h
theorem nsK_inv {v : SV} {k : NestedKey} (h : nsK v = some k) : ∃ l, v = .d (.tup l) ∧ keyN (.tup l) = some k ∧ k.depth ≤ 8 ∧ noTxt k = true := by
  unfold nsK at h
  split at h
  · rename_i l
    obtain ⟨k1, h1, h2⟩ := bind_inv h
    obtain ⟨⟨z1, z2⟩, h3⟩ := if_inv h2
    cases h3
    exact ⟨l, rfl, h1, z1, z2⟩
  · cases h
section
variable {T : Tab} {A : Adr} {W : Wd} {C : CC}
variable {pos p apos tpos : Pos} {a b e o : Expr} {ra rb : IE} {elts : List Expr} {kk : Nat}
theorem relO_ns {ν : List Addr} {ds : List D} {u : MO} (h : RelO ν (.nset ds) u) : ∃ es, u = .nset es ∧ ds.Perm es := by
  cases u <;> first | exact False.elim h | exact ⟨_, rfl, h⟩
theorem ns_low {ng : Bool} {ν : List Addr} {M : MS} {g : G} {x y sx sy : SV} {ds : List D} {k : NestedKey} (Cf : Cfg ν M g) (h1 : nsOf M y = some ds) (h2 : nsK x = some k) (rx : RelS ν x sx) (ry : RelS ν y sy) :
    RW W (rNIn W.K W.w ng) sx sy g (PV ν M g (.d (.bl (if ng then !nsHas k ds else nsHas k ds))) M) := fun H vx vy k1 r1 r2 Q' q' => by
  obtain ⟨i, rfl, e⟩ := nsOf_inv h1
  obtain ⟨l, rfl, hk, hd, ht⟩ := nsK_inv h2
  obtain ⟨ad, u, rfl, ha, hu, ho⟩ := Cf.obj e ry
  obtain ⟨es, rfl, pm⟩ := relO_ns ho
  obtain ⟨L, hL, kr⟩ := k1 ad _ hu
  obtain ⟨kk, hh⟩ := krep_keys kr
  cases relS_d rx
  obtain ⟨q1, q2⟩ := keyV_of (.tup l) k vx hk r1
  obtain ⟨b, xs, rfl, _⟩ := id r1
  refine ⟨b, ad, L, k, rfl, r2, hL, kk, ⟨q1, hd, ht⟩, ?_⟩
  rw [hh k, ← nsHas_perm pm]
  exact q' _ _ (post_same (r := .d (.bl _)) k1 rfl (PV.d Cf))
theorem nsIn_inv {c : Call} {ng : Bool} {ρ : Rho} {M M' : MS} {v : SV} (he : evE c (.nsIn ng ra rb) ρ M = some (v, M')) : ∃ x M1 y ds k, evE c ra ρ M = some (x, M1) ∧ evE c rb ρ M1 = some (y, M') ∧ nsOf M' y = some ds ∧ nsK x = some k ∧ v = .d (.bl (if ng then !nsHas k ds else nsHas k ds)) := by
  unfold evE at he
  obtain ⟨⟨x, M1⟩, h1, h2⟩ := bind_inv he
  obtain ⟨⟨y, M2⟩, h3, h4⟩ := bind_inv h2
  obtain ⟨ds, h5, h6⟩ := bind_inv h4
  obtain ⟨k, h7, h8⟩ := bind_inv h6
  obtain ⟨rfl, rfl⟩ := ret_inv h8
  exact ⟨x, M1, y, ds, k, h1, h3, h5, h7, rfl⟩
theorem se_nsnin (hb : stB b = true) (h0 : SE T A W C a ra) (h1 : SE T A W C b rb) : SE T A W C (.Compare a [.NotIn] [b] pos) (.nsIn true ra rb) := fun k X G ρ M v M' he ν g ρR Cf R => by
  obtain ⟨x, M1, y, ds, q, e1, e2, e3, e4, rfl⟩ := nsIn_inv he
  have op : OpR X (compareOp .NotIn) (rNIn W.K W.w true) := by
    have := op_nnin (X := X) (by have := G.hu; omega)
    rw [G.hK, G.hw] at this; exact this
  refine we_cmp op (mark_eq hb) ((h0 k X G ρ M x M1 e1 ν g ρR Cf R).imp fun sx g1 ⟨ν1, N1, r1⟩ => (h1 k X G ρ M1 y _ e2 ν1 g1 ρR N1.cfg (N1.rr R)).imp fun sy g2 ⟨ν2, N2, r2⟩ => ?_)
  exact (ns_low (ng := true) N2.cfg e3 e4 (N2.rs r1) r2).imp fun s g' p => (p.back N2).back N1
theorem se_nsin (hb : stB b = true) (h0 : SE T A W C a ra) (h1 : SE T A W C b rb) : SE T A W C (.Compare a [.In] [b] pos) (.nsIn false ra rb) := fun k X G ρ M v M' he ν g ρR Cf R => by
  obtain ⟨x, M1, y, ds, q, e1, e2, e3, e4, rfl⟩ := nsIn_inv he
  have op : OpR X (compareOp .In) (rNIn W.K W.w false) := by
    have := op_nin (X := X) (by have := G.hu; omega)
    rw [G.hK, G.hw] at this; exact this
  refine we_cmp op (mark_eq hb) ((h0 k X G ρ M x M1 e1 ν g ρR Cf R).imp fun sx g1 ⟨ν1, N1, r1⟩ => (h1 k X G ρ M1 y _ e2 ν1 g1 ρR N1.cfg (N1.rr R)).imp fun sy g2 ⟨ν2, N2, r2⟩ => ?_)
  exact (ns_low (ng := false) N2.cfg e3 e4 (N2.rs r1) r2).imp fun s g' p => (p.back N2).back N1
theorem st_nsnin (hb : stB b = true) (h0 : SE T A W C a ra) (h1 : SE T A W C b rb) : ST T A W C (.Compare a [.NotIn] [b] pos) (.val (.nsIn true ra rb)) := fun k X G ρ M v M' he ν g ρR Cf R => by
  unfold evT at he
  obtain ⟨⟨z, M0⟩, h00, h7⟩ := bind_inv he
  obtain ⟨x, M1, y, ds, q, e1, e2, e3, e4, rfl⟩ := nsIn_inv h00
  obtain ⟨t', h8, h9⟩ := map_inv h7
  cases h8; cases h9
  have op : OpR X (compareOp .NotIn) (rNIn W.K W.w true) := by
    have := op_nnin (X := X) (by have := G.hu; omega)
    rw [G.hK, G.hw] at this; exact this
  exact wt_cmp op (mark_eq hb) ((h0 k X G ρ M x M1 e1 ν g ρR Cf R).imp fun sx g1 ⟨ν1, N1, r1⟩ => (h1 k X G ρ M1 y _ e2 ν1 g1 ρR N1.cfg (N1.rr R)).imp fun sy g2 ⟨ν2, N2, r2⟩ =>
    (ns_low (ng := true) N2.cfg e3 e4 (N2.rs r1) r2).imp fun s g' ⟨ν3, N3, r3⟩ => ⟨_, relS_d r3, rfl, ν3, (N1.trans N2).trans N3⟩)
theorem st_nsin (hb : stB b = true) (h0 : SE T A W C a ra) (h1 : SE T A W C b rb) : ST T A W C (.Compare a [.In] [b] pos) (.val (.nsIn false ra rb)) := fun k X G ρ M v M' he ν g ρR Cf R => by
  unfold evT at he
  obtain ⟨⟨z, M0⟩, h00, h7⟩ := bind_inv he
  obtain ⟨x, M1, y, ds, q, e1, e2, e3, e4, rfl⟩ := nsIn_inv h00
  obtain ⟨t', h8, h9⟩ := map_inv h7
  cases h8; cases h9
  have op : OpR X (compareOp .In) (rNIn W.K W.w false) := by
    have := op_nin (X := X) (by have := G.hu; omega)
    rw [G.hK, G.hw] at this; exact this
  exact wt_cmp op (mark_eq hb) ((h0 k X G ρ M x M1 e1 ν g ρR Cf R).imp fun sx g1 ⟨ν1, N1, r1⟩ => (h1 k X G ρ M1 y _ e2 ν1 g1 ρR N1.cfg (N1.rr R)).imp fun sy g2 ⟨ν2, N2, r2⟩ =>
    (ns_low (ng := false) N2.cfg e3 e4 (N2.rs r1) r2).imp fun s g' ⟨ν3, N3, r3⟩ => ⟨_, relS_d r3, rfl, ν3, (N1.trans N2).trans N3⟩)
theorem se_nsnew (hg : globB C "set" = true) (hf : ("set" : Str) ∈ T.free) : SE T A W C (.Call (.Name "set" p) [] [] pos) .nsNew := fun k X G ρ M v M' he ν g ρR Cf R => by
  unfold evE EV.new at he
  cases he
  obtain ⟨gl, hd⟩ := G.gl hg
  intro σ H S Q' q'
  refine ts_of (pe_callTy0 cr_nset0 gl (G.fct.free _ hf) (by decide +kernel) (by decide) hd) ⟨rfl, fun ad hp => ?_⟩
  have gp : g ad = none := S.ok.free hp
  refine q' _ _ ⟨.ob ad, gset g ad (.nset []), S.ok.newOb (m := .nset []) hp ⟨[], by rw [G.hw]; exact upd_same, rfl⟩, Ext.newOb hp, rfl, _, Nxt.new (o := .nset []) (u := .nset []) Cf gp (List.Perm.refl _), ?_⟩
  show (ν ++ [ad])[M.length]? = some ad
  rw [← Cf.len]; simp
/-! ### o.add(e) -/
section
variable {X : Cx} {ρ : Rho} {g : G} {Q : QE} {es : List Expr} {cpos : Pos} {name : Str} {id : String} {r : V → List V → Hp → VK → Prop}
theorem we_sn (hw : X.w = W.w) (slot : Slot "set" name id) (hty : typeOf (.builtin id) = pure (.type "method_descriptor")) (hm : MtR X id r) (h : WE X W o ρ g fun sv g1 => (∃ a ds, sv = .ob a ∧ g1 a = some (.nset ds)) ∧ WA X W (e :: es) ρ g1 fun svs g2 => RM W r sv svs g2 Q)
    (hbase : attributeBase o name X.env (eval o X.env) = eval o X.env)
    (hfew : ((backTo cpos (starEach (e :: es) X.env)).all (fun x => !x.1) && (backToKw cpos (keywordEach [] X.env)).all (fun x => x.1.isSome)
      && decide ((e :: es).length + ([] : List Keyword).length + (if ([] : List Keyword).isEmpty then 0 else 1) < 30)) = true)
    (hline : (apos.endLine == cpos.line) = true) (hs : starEach (e :: es) X.env = (false, eval e X.env) :: starEach es X.env) (hplain : (backTo cpos (starEach es X.env)).any (·.1) = false) :
    WE X W (.Call (.Attribute o name apos) (e :: es) [] cpos) ρ g Q := fun σ H S Q' q' => by
  intro pins s I
  refine wpAny_Call_method_late hbase hfew hline rfl (thn ((pe_s (X := X) (e := o)).run pins s σ H (fun v H1 => PostE W g H (fun sv g1 => (∃ a ds, sv = .ob a ∧ g1 a = some (.nset ds)) ∧ WA X W (e :: es) ρ g1 fun svs g2 => RM W r sv svs g2 Q) v H1) I (h σ H S _ fun v H1 z => z)) fun u s1 hh => ?_)
  obtain ⟨v, H1, I1, r1, sv, g1, k1, e1, rr, ⟨a, ds, hsv, ha⟩, h1⟩ := hh
  subst hsv
  cases (show v = .ref a from rr)
  obtain rfl : u = Value.ref a := r1
  obtain ⟨L, ho, _⟩ := k1 a _ ha
  rw [← hw] at ho
  obtain ⟨ob, xs, ep, t, h3, h4, _⟩ := (I1.hok a _ ho).1
  refine ⟨"set", id, F.plainAttrs_set, slot, hty, ⟨ob, h3, h4.1⟩, (fun b e => by cases e; exact ⟨ob, h3, h4.2.1⟩), ?_⟩
  have hA := (pa_s (X := X) (es := e :: es)).run cpos pins s1 σ H1 (fun vs H2 => PostA W g1 H1 (fun svs g2 => RM W r (.ob a) svs g2 Q) vs H2) I1 (h1 σ H1 (S.ext k1 e1) _ fun vs H2 z => z)
  rw [hs] at hA ⊢
  refine Calls.callWith_builtin (by
    show (false || (backTo cpos (starEach es X.env)).any (·.1)) = false
    rw [hplain] <;> rfl) (Calls.evalArgs_plain ?_)
  refine thn hA fun us s2 ⟨vs, H2, I2, r2, svs, g2, k2, e2, rs, q2⟩ => ?_
  exact hm pins s2 σ H2 (.ref a) vs (.ref a) us Q' I2 rfl r2 (q2 H2 (.ref a) vs k2 rfl rs Q' fun v H3 z => q' v H3 (z.back (e1.trans e2)))
end
theorem rm_nadd {g : G} {ad : Addr} {es l : List D} {k : NestedKey} {Q : QE} (ha : g ad = some (.nset es)) (hk : keyN (.tup l) = some k) (hd : k.depth ≤ 8) (few : es.length + 1 < 64)
    (q : ∀ es2 : List D, (nsHas k es = true → es2 = es) → (nsHas k es = false → es2.Perm (.tup l :: es)) → Q (.d .non) (gset g ad (.nset es2))) : RM W (rNAdd W.K W.w) (.ob ad) [.d (.tup l)] g Q := fun H vx vs k1 rx rs Q' q' => by
  obtain ⟨v, r, rfl, r1, hr⟩ := rs
  cases (show r = [] from hr)
  obtain ⟨L, hL, kr⟩ := k1 ad _ ha
  obtain ⟨kk, hh⟩ := krep_keys kr
  obtain ⟨q1, q2⟩ := keyV_of (.tup l) k v hk r1
  obtain ⟨b, xs, rfl, _⟩ := id r1
  refine ⟨ad, b, L, k, rx, rfl, hL, kk, ⟨q1, hd, q2⟩, by rw [krep_len kr]; exact few, fun L2 y n => ?_⟩
  cases hs : nsHas k es with
  | true =>
    have hm : k ∈ L.map (·.2) := of_decide_eq_true ((hh k).trans hs)
    have e2 := y hm
    subst e2
    exact q' _ _ ⟨.d .non, gset g ad (.nset es), k1.mut (m' := .nset es) ha ⟨L2, upd_same, kr.ext (Ext.mut ha)⟩, Ext.mut ha, rfl, q es (fun _ => rfl) (fun z => by rw [hs] at z; cases z)⟩
  | false =>
    have hm : k ∉ L.map (·.2) := of_decide_eq_false ((hh k).trans hs)
    obtain ⟨es2, p2, kr2⟩ := krep_perm (n hm) (show KRep W H g ((b, k) :: L) (.tup l :: es) from ⟨_, _, rfl, ⟨r1, hk, hd⟩, kr⟩)
    exact q' _ _ ⟨.d .non, gset g ad (.nset es2), k1.mut (m' := .nset es2) ha ⟨L2, upd_same, kr2.ext (Ext.mut ha)⟩, Ext.mut ha, rfl, q es2 (fun z => by rw [hs] at z; cases z) (fun _ => p2)⟩
theorem se_nsadd (hb : baseB o = true) (hl : (apos.endLine == pos.line) = true) (hn : nsB a = true) (h0 : SE T A W C o ra) (h1 : SE T A W C a rb) : SE T A W C (.Call (.Attribute o "add" apos) [a] [] pos) (.nsAdd ra rb) := fun k X G ρ M v M' he ν g ρR Cf R => by
  unfold evE at he
  obtain ⟨⟨y, M1⟩, e1, e2⟩ := bind_inv he
  obtain ⟨hs, e2⟩ := if_inv e2
  obtain ⟨⟨x, M2⟩, e3, e4⟩ := bind_inv e2
  obtain ⟨ds0, hds⟩ := Option.isSome_iff_exists.mp hs
  dsimp only at e4
  split at e4
  · rename_i i l _
    split at e4
    · rename_i ds eo
      obtain ⟨q, e5, e6⟩ := bind_inv e4
      obtain ⟨few, e6⟩ := if_inv e6
      cases e6
      obtain ⟨l', hl', hk, hd, ht⟩ := nsK_inv e5
      cases hl'
      have mt : MtR X "set.add" (rNAdd W.K W.w) := by
        have := mt_nadd (X := X) (by have := G.hu; omega)
        rw [G.hK, G.hw] at this; exact this
      refine we_sn G.hw PySem.F.slot_set_add PySem.F.type_set_add mt ((h0 k X G ρ M _ M1 e1 ν g ρR Cf R).imp fun sx g1 ⟨ν1, N1, r1⟩ => ⟨?_, ?_⟩) (base_eq hb) (few_ok (es := [a]) (by rw [List.all_cons, hn]; rfl) (show 1 < 30 by decide)) hl (star_ns hn) rfl
      · obtain ⟨j, hj, ej⟩ := nsOf_inv hds
        cases hj
        obtain ⟨ad, u, rfl, ha, hu, ho⟩ := N1.cfg.obj ej r1
        obtain ⟨es, rfl, _⟩ := relO_ns ho
        exact ⟨ad, es, rfl, hu⟩
      · refine wa_one ((h1 k X G ρ M1 _ M2 e3 ν1 g1 ρR N1.cfg (N1.rr R)).imp fun sy g2 ⟨ν2, N2, r2⟩ => ?_) (star_ns hn)
        cases relS_d r2
        obtain ⟨ad, u, rfl, ha, hu, ho⟩ := N2.cfg.obj eo (N2.rs r1)
        obtain ⟨es, rfl, pm⟩ := relO_ns ho
        refine rm_nadd hu hk hd (by rw [← pm.length_eq]; exact few) fun es2 y n => ?_
        have : PV ν2 M2 g2 (.d .non) (put M2 i (.nset (if nsHas q ds then ds else .tup l :: ds))) (.d .non) (gset g2 ad (.nset es2)) := by
          refine ps_put N2.cfg eo ha ?_ (show D.non = D.non from rfl)
          show (if nsHas q ds = true then ds else .tup l :: ds).Perm es2
          rw [nsHas_perm pm]
          cases hz : nsHas q es with
          | true => rw [if_pos rfl, y hz]; exact pm
          | false => rw [if_neg (by decide)]; exact (pm.cons _).trans (n hz).symm
        exact (this.back N2).back N1
    · cases e4
  · cases e4
/-! ### zip of tuples -/
section
variable {ν : List Addr} {g1 : G} {H1 : Hp} {x y : Addr} {xs ys : List V} {l m : List D}
theorem it_zip (h1 : DL.ST W.K H1 g1 x xs) (h2 : Reps W H1 g1 l xs) (h3 : DL.ST W.K H1 g1 y ys) (h4 : Reps W H1 g1 m ys) : ItOk W ν g1 H1 (RZ.ItzT W.K x y) (.xs ((l.zip m).map fun p => SV.d (.tup [p.1, p.2]))) := fun ν2 M g H _ C k ex i => by
  have qx := (h1.ext ex).sq
  have qy := (h3.ext ex).sq
  have rx := Reps.ext ex _ _ h2
  have ry := Reps.ext ex _ _ h4
  refine ⟨fun v hv => ?_, fun hv => ?_⟩
  · have hv : ((l.zip m).map fun p => SV.d (.tup [p.1, p.2]))[i]? = some v := Option.some.inj hv
    rw [List.getElem?_map] at hv
    obtain ⟨⟨d, e⟩, h5, h6⟩ := map_inv hv
    have h5 := List.getElem?_zip_eq_some.mp h5
    obtain ⟨x0, hx0, rx0⟩ := rx.get h5.1
    obtain ⟨y0, hy0, ry0⟩ := ry.get h5.2
    refine ⟨⟨xs, ys, x0, y0, qx, qy, hx0, hy0⟩, fun z H' ⟨Tp, x1, y1, e1, e2, e3, e4, e5⟩ => ?_⟩
    subst e1 e3 h6
    have ex1 : x1 = x0 := by have := e4 xs qx; rw [hx0] at this; cases this; rfl
    have ey1 : y1 = y0 := by have := e5 ys qy; rw [hy0] at this; cases this; rfl
    subst ex1 ey1
    have e6 : Ext g H g (upd H Tp (.tup [x1, y1])) := Ext.new e2
    refine ⟨.d (.tup [d, e]), rfl, k.new e2, e6, ?_⟩
    exact ⟨Tp, [x1, y1], rfl, .inl ⟨.inl upd_same, k.free e2⟩, x1, [y1], rfl, Rep.ext e6 _ _ rx0, y1, [], rfl, Rep.ext e6 _ _ ry0, rfl⟩
  · have hv : ((l.zip m).map fun p => SV.d (.tup [p.1, p.2]))[i]? = none := Option.some.inj hv
    refine ⟨xs, ys, qx, qy, ?_⟩
    rw [← rx.length, ← ry.length]
    have : (l.zip m).length ≤ i := by simpa using hv
    rw [List.length_zip] at this
    omega
end
theorem si_zip (hg : globB C "zip" = true) (hf : ("zip" : Str) ∈ T.free) (hn : nsB a = true) (hn2 : nsB b = true) (h : SE T A W C a ra) (h' : SE T A W C b rb) : SI T A W C (.Tuple elts kk tpos) (.Call (.Name "zip" p) [a, b] [] pos) (.zip ra rb) := fun k X G ρ M is M' he ν g ρR Cf R => by
  unfold evI at he
  obtain ⟨⟨x, M1⟩, h1, h2⟩ := bind_inv he
  obtain ⟨⟨y, M2⟩, h3, h4⟩ := bind_inv h2
  obtain ⟨gl, hd⟩ := G.gl hg
  have s2 : ∀ env, starEach [b] env = [(false, eval b env)] := fun env => star_ns hn2
  have s1 : ∀ env, starEach [a, b] env = [(false, eval a env), (false, eval b env)] := fun env => by rw [star_ns hn, s2]
  refine ⟨_, RZ.pi_zipA gl (G.fct.free _ hf) (pa_cons pe_s (pa_cons pe_s pa_nil (star_ns hn2)) (star_ns hn)) (by rw [s1, s2]) (by rw [s2]; rfl), fun σ H S R' q => ?_⟩
  dsimp only at h4
  split at h4
  · rename_i l m
    cases h4
    refine h k X G ρ M _ _ h1 ν g ρR Cf R σ H S _ fun vv H1 ⟨sv, g1, k1, e1, rr, ν1, N1, r1⟩ => ?_
    refine h' k X G ρ M1 _ _ h3 ν1 g1 ρR N1.cfg (N1.rr R) σ H1 (S.ext k1 e1) _ fun vv2 H2 ⟨sv2, g2, k2, e2, rr2, ν2, N2, r2⟩ => ?_
    cases relS_d r1
    cases relS_d r2
    obtain ⟨a1, xs, rfl, q1, q2⟩ := RepS.ext e2 rr
    obtain ⟨a2, ys, rfl, q3, q4⟩ := rr2
    rw [G.hK]
    exact ⟨a1, a2, xs, ys, rfl, .inr ⟨q1.sq, q3.sq, q _ _ g2 ν2 (N1.trans N2) k2 (e1.trans e2) (it_zip q1 q2 q3 q4)⟩⟩
  · cases h4
end
end EV

set_option autoImplicit false
namespace K
open PySem PySem.Spec PyProof.Rows L2 DL EV
theorem kon_mem {l : List (Str × D)} {j : Nat} {p : Str × D} (h : l[j]? = some p) : p ∈ l := List.mem_of_getElem? h
def top (i : Nat) : Stmt := PySem.Challenge.pw_deskcards_k45_comparing_known_by_hand.main.body.getD i (.Pass ⟨0, 0, 0, 0⟩)
def kd_NOT_NAMES : D := .tup [.str "and", .str "do", .str "if", .str "mark", .str "not", .str "open", .str "shut", .str "then"]
def kd_START : D := .tup [.tup [.tup [.int (0), .int (0)], .tup [.int (0), .int (0)]], .int (0), .int (0)]
def kd_WORDS : D := .tup [.str "same", .str "next", .str "near", .str "far", .str "last", .str "elder", .str "house"]
def kd_WORDS_WITH_DEEDS : D := .tup [.str "next", .str "near", .str "far", .str "house"]
abbrev s__law_feed : Stmt := top 56
abbrev n__law_feed : List Str := ["_law_script", "_law_since", "_law_cells", "_law_blend", "_law_cell"]
abbrev p__law_feed : List Str := ["_law_script", "_law_since"]
def ir__law_feed : IBs := .cons (.set 2 (.lc false [4] (.nm 4) (.seq (.slc (.var 0) (.at (.var 1)) (.at (.bin .add (.var 1) (.cst (.int 60)))))) (.tt) (.bi .abs (.cons (.bi .int (.cons (.var 4) (.nil))) (.nil))))) (.cons (.set 3 (.bin .add (.cst (.int 10477)) (.bin .mul (.cst (.int 41)) (.var 1)))) (.cons (.forr (.nm 4) (.seq (.var 2)) (.cons (.set 3 (.bin .mod (.bi .int (.cons (.bin .add (.bin .add (.bi .int (.cons (.bin .mul (.var 3) (.cst (.int 48271))) (.nil))) (.bin .mod (.bi .int (.cons (.var 4) (.nil))) (.cst (.int 2147483587)))) (.cst (.int 3))) (.nil))) (.cst (.int 2147483647)))) (.nil))) (.cons (.ret (.ddisp2 "great" "blend" (.rev (.lc false [4] (.nm 4) (.seq (.var 2)) (.val (.cmp .ge (.var 4) (.bin .pow (.cst (.int 10)) (.cst (.int 18))))) (.var 4))) (.var 3))) (.nil))))
def dI__law_feed : DefI := ⟨"_law_feed", "_law_feed", s__law_feed, n__law_feed, p__law_feed, [], ir__law_feed, ("_law_feed", none), [], false, false⟩
abbrev s__law_mixed : Stmt := top 58
abbrev n__law_mixed : List Str := ["_law_box", "_law_some", "_law_rest", "_law_found"]
abbrev p__law_mixed : List Str := ["_law_box", "_law_some"]
def ir__law_mixed : IBs := .cons (.par 2 3 (.bi .list (.cons (.var 1) (.nil))) (.lst true (.nil))) (.cons (.whl (.val (.cmp .ne (.var 2) (.lst false (.nil)))) (.cons (.expr (.bm .append (.var 3) (.cons (.bm .popAt (.var 2) (.cons (.call 7 [] true (.cons (.var 0) (.cons (.bi .len (.cons (.var 2) (.nil))) (.nil)))) (.nil))) (.nil)))) (.nil))) (.cons (.ret (.var 3)) (.nil)))
def dI__law_mixed : DefI := ⟨"_law_mixed", "_law_mixed", s__law_mixed, n__law_mixed, p__law_mixed, [], ir__law_mixed, ("_law_mixed", none), [], false, false⟩
abbrev s__law_known : Stmt := top 59
abbrev n__law_known : List Str := ["_law_base", "_law_late", "_law_found", "_law_marked"]
abbrev p__law_known : List Str := []
def ir__law_known : IBs := .cons (.set 0 (.lst false (.cons (.cst (.str "same open")) (.cons (.cst (.str "next do learn open")) (.cons (.cst (.str "near do learn open")) (.nil)))))) (.cons (.set 1 (.bin .add (.var 0) (.lst false (.cons (.cst (.str "last open")) (.cons (.cst (.str "elder open")) (.nil)))))) (.cons (.set 2 (.lst true (.cons (.tup (.cons (.tup (.cons (.cst (.int 3)) (.cons (.var 0) (.nil)))) (.cons (.tup (.cons (.cst (.int 3)) (.cons (.var 1) (.nil)))) (.cons (.cst .non) (.cons (.cst (.int 0)) (.nil)))))) (.nil)))) (.cons (.set 2 (.bin .add (.var 2) (.lst false (.cons (.tup (.cons (.tup (.cons (.cst (.int 3)) (.cons (.var 0) (.nil)))) (.cons (.tup (.cons (.cst (.int 2)) (.cons (.var 0) (.nil)))) (.cons (.cst (.int 3)) (.cons (.cst (.int 4)) (.nil)))))) (.cons (.tup (.cons (.tup (.cons (.cst (.int 3)) (.cons (.var 0) (.nil)))) (.cons (.tup (.cons (.cst (.int 2)) (.cons (.var 0) (.nil)))) (.cons (.cst (.int 1)) (.cons (.cst (.int 0)) (.nil)))))) (.nil)))))) (.cons (.expr (.bm .append (.var 2) (.cons (.tup (.cons (.tup (.cons (.cst (.int 1)) (.cons (.var 0) (.nil)))) (.cons (.tup (.cons (.cst (.int 1)) (.cons (.slc (.var 0) (.no) (.at (.cst (.int 2)))) (.nil)))) (.cons (.cst .non) (.cons (.cst (.int 0)) (.nil)))))) (.nil)))) (.cons (.expr (.bm .append (.var 2) (.cons (.tup (.cons (.tup (.cons (.cst (.int 2)) (.cons (.var 0) (.nil)))) (.cons (.tup (.cons (.cst (.int 2)) (.cons (.bin .add (.var 0) (.lst false (.cons (.cst (.str "far open")) (.nil)))) (.nil)))) (.cons (.cst (.int 2)) (.cons (.cst (.int 4)) (.nil)))))) (.nil)))) (.cons (.expr (.bm .append (.var 2) (.cons (.tup (.cons (.tup (.cons (.cst (.int 2)) (.cons (.var 0) (.nil)))) (.cons (.tup (.cons (.cst (.int 2)) (.cons (.bin .add (.var 0) (.lst false (.cons (.cst (.str "far open")) (.nil)))) (.nil)))) (.cons (.cst (.int 1)) (.cons (.cst (.int 0)) (.nil)))))) (.nil)))) (.cons (.expr (.bm .append (.var 2) (.cons (.tup (.cons (.tup (.cons (.cst (.int 2)) (.cons (.var 0) (.nil)))) (.cons (.tup (.cons (.cst (.int 2)) (.cons (.slc (.var 0) (.at (.cst (.int 1))) (.no)) (.nil)))) (.cons (.cst (.int 0)) (.cons (.cst (.int 3)) (.nil)))))) (.nil)))) (.cons (.expr (.bm .append (.var 2) (.cons (.tup (.cons (.tup (.cons (.cst (.int 2)) (.cons (.var 0) (.nil)))) (.cons (.tup (.cons (.cst (.int 2)) (.cons (.lst false (.cons (.cst (.str "same open")) (.cons (.cst (.str "next open")) (.cons (.cst (.str "near do learn open")) (.nil))))) (.nil)))) (.cons (.cst (.int 1)) (.cons (.cst (.int 5)) (.nil)))))) (.nil)))) (.cons (.expr (.bm .append (.var 2) (.cons (.tup (.cons (.tup (.cons (.cst (.int 2)) (.cons (.var 0) (.nil)))) (.cons (.tup (.cons (.cst (.int 2)) (.cons (.lst false (.cons (.cst (.str "same open")) (.cons (.cst (.str "next open")) (.cons (.cst (.str "near do learn open")) (.nil))))) (.nil)))) (.cons (.cst (.int 0)) (.cons (.cst (.int 0)) (.nil)))))) (.nil)))) (.cons (.expr (.bm .append (.var 2) (.cons (.tup (.cons (.tup (.cons (.cst (.int 2)) (.cons (.var 0) (.nil)))) (.cons (.tup (.cons (.cst (.int 2)) (.cons (.bin .add (.var 0) (.lst false (.cons (.cst (.str "house do learn open")) (.nil)))) (.nil)))) (.cons (.cst (.int 0)) (.cons (.cst (.int 0)) (.nil)))))) (.nil)))) (.cons (.expr (.bm .append (.var 2) (.cons (.tup (.cons (.tup (.cons (.cst (.int 2)) (.cons (.var 0) (.nil)))) (.cons (.tup (.cons (.cst (.int 2)) (.cons (.bin .add (.var 0) (.lst false (.cons (.cst (.str "house do learn open")) (.nil)))) (.nil)))) (.cons (.cst (.int 3)) (.cons (.cst (.int 5)) (.nil)))))) (.nil)))) (.cons (.expr (.bm .append (.var 2) (.cons (.tup (.cons (.tup (.cons (.cst (.int 2)) (.cons (.slc (.var 0) (.at (.cst (.int 1))) (.no)) (.nil)))) (.cons (.tup (.cons (.cst (.int 2)) (.cons (.bin .add (.slc (.var 0) (.at (.cst (.int 1))) (.no)) (.lst false (.cons (.cst (.str "house do learn open")) (.nil)))) (.nil)))) (.cons (.cst (.int 0)) (.cons (.cst (.int 3)) (.nil)))))) (.nil)))) (.cons (.set 3 (.lst false (.cons (.cst (.str "same if marked k open")) (.cons (.cst (.str "next do learn then mark k open")) (.cons (.cst (.str "near do learn open")) (.nil)))))) (.cons (.expr (.bm .append (.var 2) (.cons (.tup (.cons (.tup (.cons (.cst (.int 2)) (.cons (.var 0) (.nil)))) (.cons (.tup (.cons (.cst (.int 2)) (.cons (.var 3) (.nil)))) (.cons (.cst (.int 0)) (.cons (.cst (.int 0)) (.nil)))))) (.nil)))) (.cons (.ret (.bin .add (.var 2) (.lst false (.cons (.tup (.cons (.tup (.cons (.cst (.int 2)) (.cons (.var 0) (.nil)))) (.cons (.tup (.cons (.cst (.int 2)) (.cons (.var 3) (.nil)))) (.cons (.cst (.int 1)) (.cons (.cst (.int 4)) (.nil)))))) (.cons (.tup (.cons (.tup (.cons (.cst (.int 2)) (.cons (.var 0) (.nil)))) (.cons (.tup (.cons (.cst (.int 2)) (.cons (.bin .add (.lst false (.cons (.cst (.str "next shut")) (.nil))) (.var 0)) (.nil)))) (.cons (.cst (.int 0)) (.cons (.cst (.int 2)) (.nil)))))) (.nil)))))) (.nil))))))))))))))))
def dI__law_known : DefI := ⟨"_law_known", "_law_known", s__law_known, n__law_known, p__law_known, [], ir__law_known, ("_law_known", none), [], false, false⟩
abbrev s_Row_read : Stmt := inClass (top 34) 1
abbrev n_Row_read : List Str := ["cls", "text", "head", "_", "ending", "front", "doing", "deeds", "word", "testing", "tests"]
abbrev p_Row_read : List Str := ["cls", "text"]
def ir_Row_read : IBs := .cons (.unp [2, 3, 4] (.bm .rpart (.var 1) (.cons (.cst (.str " ")) (.nil)))) (.cons (.ife (.val (.cmp .nin (.var 4) (.tup (.cons (.cst (.str "open")) (.cons (.cst (.str "shut")) (.nil)))))) (.cons (.dead) (.nil)) (.nil)) (.cons (.unp [5, 6, 7] (.bm .part (.var 2) (.cons (.cst (.str " do ")) (.nil)))) (.cons (.unp [8, 9, 10] (.bm .part (.var 5) (.cons (.cst (.str " if ")) (.nil)))) (.cons (.tryy (.cons (.ret (.makeL 0 [(2, 11)] [] false (.cons (.var 8) (.cons (.ife (.val (.var 9)) (.bm .split (.var 10) (.cons (.cst (.str " and ")) (.nil))) (.tup (.nil))) (.cons (.ife (.val (.var 6)) (.bm .split (.var 7) (.cons (.cst (.str " then ")) (.nil))) (.tup (.nil))) (.cons (.cmp .eq (.var 4) (.cst (.str "open"))) (.nil))))))) (.nil))) (.nil)))))
def dI_Row_read : DefI := ⟨"read", "Row.read", s_Row_read, n_Row_read, p_Row_read, [], ir_Row_read, ("Row", some "read"), [], true, false⟩
abbrev s_Tool_read : Stmt := inClass (top 45) 1
abbrev n_Tool_read : List Str := ["cls", "text", "first", "rest", "lead", "_", "digits", "window", "at", "line"]
abbrev p_Tool_read : List Str := ["cls", "text"]
def ir_Tool_read : IBs := .cons (.unpS 2 3 (.bm .split (.var 1) (.cons (.cst (.str "\n")) (.nil)))) (.cons (.unp [4, 5, 6] (.bm .part (.var 2) (.cons (.cst (.str " ")) (.nil)))) (.cons (.set 7 (.call 8 [] false (.cons (.var 6) (.nil)))) (.cons (.ife (.or (.val (.cmp .ne (.var 4) (.cst (.str "window")))) (.not (.val (.call 12 [] false (.cons (.var 7) (.nil)))))) (.cons (.dead) (.nil)) (.nil)) (.cons (.ret (.makeL 0 [(3, 13)] [] false (.cons (.var 7) (.cons (.lc false [8, 9] (.tp [8, 9]) (.enum 1 (.var 3)) (.tt) (.call 14 [] false (.cons (.var 9) (.cons (.var 8) (.nil))))) (.nil))))) (.nil)))))
def dI_Tool_read : DefI := ⟨"read", "Tool.read", s_Tool_read, n_Tool_read, p_Tool_read, [], ir_Tool_read, ("Tool", some "read"), [], true, false⟩
abbrev s_parting : Stmt := top 54
abbrev n_parting : List Str := ["p", "q", "skips", "events"]
abbrev p_parting : List Str := ["p", "q", "skips"]
def ir_parting : IBs := .cons (.set 3 (.call 15 [] false (.cons (.var 0) (.cons (.var 1) (.cons (.var 2) (.nil)))))) (.cons (.ret (.ife (.val (.cmp .isN (.var 3) (.cst .non))) (.cst .non) (.make 1 10 [] false (.cons (.var 3) (.nil))))) (.nil))
def dI_parting : DefI := ⟨"parting", "parting", s_parting, n_parting, p_parting, [], ir_parting, ("parting", none), [], false, false⟩
abbrev s_alike : Stmt := top 53
abbrev n_alike : List Str := ["p", "q", "skips"]
abbrev p_alike : List Str := ["p", "q", "skips"]
def ir_alike : IBs := .cons (.ret (.cmp .isN (.call 15 [] false (.cons (.var 0) (.cons (.var 1) (.cons (.var 2) (.nil))))) (.cst .non))) (.nil)
def dI_alike : DefI := ⟨"alike", "alike", s_alike, n_alike, p_alike, [], ir_alike, ("alike", none), [], false, false⟩
abbrev s__law_take : Stmt := top 57
abbrev n__law_take : List Str := ["_law_box", "_law_wide", "_law_great", "_law_cell"]
abbrev p__law_take : List Str := ["_law_box", "_law_wide"]
def ir__law_take : IBs := .cons (.set 2 (.dget (.var 0) (.cst (.str "great")))) (.cons (.whl (.and (.val (.cmp .ne (.var 2) (.lst false (.nil)))) (.val (.cmp .eq (.ix (.var 2) (.neg (.cst (.int 1)))) (.cst (.int 0))))) (.cons (.expr (.bm .pop (.var 2) .nil)) (.nil))) (.cons (.ife (.val (.cmp .ne (.var 2) (.lst false (.nil)))) (.cons (.set 3 (.bm .pop (.var 2) .nil)) (.cons (.expr (.bm .append (.var 2) (.cons (.bin .fdiv (.var 3) (.var 1)) (.nil)))) (.cons (.ret (.bin .mod (.bi .int (.cons (.var 3) (.nil))) (.var 1))) (.nil)))) (.nil)) (.cons (.dput (.var 0) (.cst (.str "blend")) (.bin .mod (.bi .int (.cons (.bin .add (.bin .mul (.dget (.var 0) (.cst (.str "blend"))) (.cst (.int 48271))) (.cst (.int 41))) (.nil))) (.cst (.int 2147483647)))) (.cons (.ret (.bin .mod (.bi .int (.cons (.bin .fdiv (.dget (.var 0) (.cst (.str "blend"))) (.cst (.int 32))) (.nil))) (.var 1))) (.nil)))))
def dI__law_take : DefI := ⟨"_law_take", "_law_take", s__law_take, n__law_take, p__law_take, [], ir__law_take, ("_law_take", none), [], false, false⟩
abbrev s_short_number : Stmt := top 15
abbrev n_short_number : List Str := ["text"]
abbrev p_short_number : List Str := ["text"]
def ir_short_number : IBs := .cons (.ife (.or (.val (.cmp .gt (.bi .len (.cons (.var 0) (.nil))) (.cst (.int 2)))) (.not (.val (.bm .isdecimal (.var 0) .nil)))) (.cons (.ret (.cst .non)) (.nil)) (.nil)) (.cons (.ret (.ife (.val (.cmp .eq (.bi .str (.cons (.bi .int (.cons (.var 0) (.nil))) (.nil))) (.var 0))) (.bi .int (.cons (.var 0) (.nil))) (.cst .non))) (.nil))
def dI_short_number : DefI := ⟨"short_number", "short_number", s_short_number, n_short_number, p_short_number, [], ir_short_number, ("short_number", none), [], false, false⟩
abbrev s_Terms_init : Stmt := inClass (top 17) 0
abbrev n_Terms_init : List Str := ["self", "skips", "elder", "house"]
abbrev p_Terms_init : List Str := ["self", "skips", "elder", "house"]
def ir_Terms_init : IBs := .cons (.ife (.and (.val (.cmp .notN (.var 1) (.cst .non))) (.not (.val (.call 16 [] false (.cons (.var 1) (.nil)))))) (.cons (.dead) (.nil)) (.nil)) (.cons (.ife (.not (.val (.isi [0, 1, 2, 3, 4, 5] (.var 2) [.bl]))) (.cons (.dead) (.nil)) (.nil)) (.cons (.ife (.not (.val (.isi [0, 1, 2, 3, 4, 5] (.var 3) [.bl]))) (.cons (.dead) (.nil)) (.nil)) (.cons (.fldS [0, 5] (.var 0) "skips" (.var 1)) (.cons (.fldS [0] (.var 0) "elder" (.var 2)) (.cons (.fldS [0] (.var 0) "house" (.var 3)) (.nil))))))
def dI_Terms_init : DefI := ⟨"__init__", "Terms.__init__", s_Terms_init, n_Terms_init, p_Terms_init, [.non, .bl false, .bl false], ir_Terms_init, ("Terms", some "__init__"), [.non, .bl false, .bl false], false, false⟩
abbrev s_Story_init : Stmt := inClass (top 23) 0
abbrev n_Story_init : List Str := ["self", "events", "wrong"]
abbrev p_Story_init : List Str := ["self", "events"]
def ir_Story_init : IBs := .cons (.ife (.not (.val (.call 17 [] false (.cons (.var 1) (.nil))))) (.cons (.dead) (.nil)) (.nil)) (.cons (.set 2 (.call 18 [] false (.cons (.var 1) (.nil)))) (.cons (.ife (.val (.cmp .notN (.var 2) (.cst .non))) (.cons (.dead) (.nil)) (.nil)) (.cons (.fldS [1] (.var 0) "events" (.bi .tuple (.cons (.var 1) (.nil)))) (.cons (.fldS [1] (.var 0) "needs" (.call 19 [] false (.cons (.fld [1] "events" (.var 0)) (.nil)))) (.nil)))))
def dI_Story_init : DefI := ⟨"__init__", "Story.__init__", s_Story_init, n_Story_init, p_Story_init, [.tup []], ir_Story_init, ("Story", some "__init__"), [.adr (He.dflAt ("Story", some "__init__") 0)], false, false⟩
abbrev s_Row_init : Stmt := inClass (top 34) 0
abbrev n_Row_init : List Str := ["self", "word", "tests", "deeds", "opens"]
abbrev p_Row_init : List Str := ["self", "word", "tests", "deeds", "opens"]
def ir_Row_init : IBs := .cons (.ife (.not (.val (.call 20 [] false (.cons (.var 1) (.nil))))) (.cons (.dead) (.nil)) (.nil)) (.cons (.ife (.not (.val (.call 21 [] false (.cons (.var 2) (.nil))))) (.cons (.dead) (.nil)) (.nil)) (.cons (.ife (.not (.val (.call 22 [] false (.cons (.var 3) (.cons (.var 1) (.nil)))))) (.cons (.dead) (.nil)) (.nil)) (.cons (.ife (.not (.val (.call 23 [] false (.cons (.var 4) (.cons (.var 1) (.nil)))))) (.cons (.dead) (.nil)) (.nil)) (.cons (.fldS [2] (.var 0) "word" (.var 1)) (.cons (.fldS [2] (.var 0) "tests" (.bi .tuple (.cons (.var 2) (.nil)))) (.cons (.fldS [2] (.var 0) "deeds" (.bi .tuple (.cons (.var 3) (.nil)))) (.cons (.fldS [2] (.var 0) "opens" (.var 4)) (.nil))))))))
def dI_Row_init : DefI := ⟨"__init__", "Row.__init__", s_Row_init, n_Row_init, p_Row_init, [.tup [], .tup [], .bl true], ir_Row_init, ("Row", some "__init__"), [.adr (He.dflAt ("Row", some "__init__") 0), .adr (He.dflAt ("Row", some "__init__") 1), .bl true], false, false⟩
abbrev s_is_window : Stmt := top 36
abbrev n_is_window : List Str := ["value"]
abbrev p_is_window : List Str := ["value"]
def ir_is_window : IBs := .cons (.ret (.and (.call 24 [] false (.cons (.var 0) (.nil))) (.cmp .ge (.var 0) (.cst (.int 1))))) (.nil)
def dI_is_window : DefI := ⟨"is_window", "is_window", s_is_window, n_is_window, p_is_window, [], ir_is_window, ("is_window", none), [], false, false⟩
abbrev s_Tool_init : Stmt := inClass (top 45) 0
abbrev n_Tool_init : List Str := ["self", "window", "rows", "row", "name"]
abbrev p_Tool_init : List Str := ["self", "window", "rows"]
def ir_Tool_init : IBs := .cons (.ife (.not (.val (.call 12 [] false (.cons (.var 1) (.nil))))) (.cons (.dead) (.nil)) (.nil)) (.cons (.ife (.not (.val (.call 25 [] false (.cons (.var 2) (.nil))))) (.cons (.dead) (.nil)) (.nil)) (.cons (.fldS [3, 4] (.var 0) "window" (.var 1)) (.cons (.fldS [3] (.var 0) "rows" (.bi .tuple (.cons (.var 2) (.nil)))) (.cons (.fldS [3] (.var 0) "marks" (.bi .tuple (.cons (.bi .sorted (.cons (.sc2 [3, 4] 3 (.fld [3] "rows" (.var 0)) 4 (.call 26 [] false (.cons (.var 3) (.nil))) (.var 4)) (.nil))) (.nil)))) (.nil)))))
def dI_Tool_init : DefI := ⟨"__init__", "Tool.__init__", s_Tool_init, n_Tool_init, p_Tool_init, [.tup []], ir_Tool_init, ("Tool", some "__init__"), [.adr (He.dflAt ("Tool", some "__init__") 0)], false, false⟩
abbrev s_read_line : Stmt := top 40
abbrev n_read_line : List Str := ["line", "at"]
abbrev p_read_line : List Str := ["line", "at"]
def ir_read_line : IBs := .cons (.tryy (.cons (.ret (.cmeth 2 3 [] false (.cst (.cls 2)) (.cons (.var 0) (.nil)))) (.nil))) (.nil)
def dI_read_line : DefI := ⟨"read_line", "read_line", s_read_line, n_read_line, p_read_line, [], ir_read_line, ("read_line", none), [], false, false⟩
abbrev s_parting_events : Stmt := top 52
abbrev n_parting_events : List Str := ("p" :: "q" :: "skips" :: "pair" :: "states" :: "stories" :: "known" :: "at" :: "steps" :: "event" :: "same" :: "state" :: "events" :: "standing" :: [])
abbrev p_parting_events : List Str := ["p", "q", "skips"]
def ir_parting_events : IBs := .cons (.set 3 (.make 5 27 [] false (.cons (.var 0) (.cons (.var 1) (.cons (.var 2) (.nil)))))) (.cons (.set 4 (.lst true (.cons (.cst kd_START) (.nil)))) (.cons (.set 5 (.lst true (.cons (.tup (.nil)) (.nil)))) (.cons (.set 6 (.nsNew)) (.cons (.set 7 (.cst (.int 0))) (.cons (.whl (.val (.cmp .lt (.var 7) (.bi .len (.cons (.var 4) (.nil))))) (.cons (.set 8 (.meth "steps" [(5, 28)] [] false (.var 3) (.cons (.ix (.var 4) (.var 7)) (.nil)))) (.cons (.forr (.tp [9, 10, 11]) (.seq (.var 8)) (.cons (.set 12 (.tupS (.ix (.var 5) (.var 7)) (.cons (.var 9) (.nil)))) (.cons (.ife (.not (.val (.var 10))) (.cons (.ret (.var 12)) (.nil)) (.nil)) (.cons (.set 13 (.meth "standing" [(5, 29)] [] false (.var 3) (.cons (.var 11) (.nil)))) (.cons (.ife (.val (.nsIn true (.var 13) (.var 6))) (.cons (.expr (.nsAdd (.var 6) (.var 13))) (.cons (.expr (.bm .append (.var 4) (.cons (.var 11) (.nil)))) (.cons (.expr (.bm .append (.var 5) (.cons (.var 12) (.nil)))) (.nil)))) (.nil)) (.nil)))))) (.cons (.aug 7 .add (.cst (.int 1))) (.nil))))) (.cons (.ret (.cst .non)) (.nil)))))))
def dI_parting_events : DefI := ⟨"parting_events", "parting_events", s_parting_events, n_parting_events, p_parting_events, [], ir_parting_events, ("parting_events", none), [], false, false⟩
abbrev s_is_number : Stmt := top 12
abbrev n_is_number : List Str := ["value"]
abbrev p_is_number : List Str := ["value"]
def ir_is_number : IBs := .cons (.ret (.and (.call 24 [] false (.cons (.var 0) (.nil))) (.cmp .ge (.var 0) (.cst (.int 0))))) (.nil)
def dI_is_number : DefI := ⟨"is_number", "is_number", s_is_number, n_is_number, p_is_number, [], ir_is_number, ("is_number", none), [], false, false⟩
abbrev s_is_sequence : Stmt := top 13
abbrev n_is_sequence : List Str := ["value"]
abbrev p_is_sequence : List Str := ["value"]
def ir_is_sequence : IBs := .cons (.ret (.isi [0, 1, 2, 3, 4, 5] (.var 0) [.lst, .tup])) (.nil)
def dI_is_sequence : DefI := ⟨"is_sequence", "is_sequence", s_is_sequence, n_is_sequence, p_is_sequence, [], ir_is_sequence, ("is_sequence", none), [], false, false⟩
abbrev s_first_wrong : Stmt := top 20
abbrev n_first_wrong : List Str := ["events", "given", "at", "event"]
abbrev p_first_wrong : List Str := ["events"]
def ir_first_wrong : IBs := .cons (.set 1 (.cst (.int 0))) (.cons (.forr (.tp [2, 3]) (.enum 0 (.var 0)) (.cons (.ife (.not (.val (.call 30 [] false (.cons (.var 3) (.cons (.var 1) (.nil)))))) (.cons (.ret (.var 2)) (.nil)) (.nil)) (.cons (.ife (.val (.cmp .eq (.var 3) (.cst (.str "give")))) (.cons (.aug 1 .add (.cst (.int 1))) (.nil)) (.nil)) (.nil)))) (.cons (.ret (.cst .non)) (.nil)))
def dI_first_wrong : DefI := ⟨"first_wrong", "first_wrong", s_first_wrong, n_first_wrong, p_first_wrong, [], ir_first_wrong, ("first_wrong", none), [], false, false⟩
abbrev s_least_terms : Stmt := top 22
abbrev n_least_terms : List Str := ["events", "skips", "elder", "given", "highest_tried", "event"]
abbrev p_least_terms : List Str := ["events"]
def ir_least_terms : IBs := .cons (.set 1 (.cst (.int 0))) (.cons (.set 2 (.cst (.bl false))) (.cons (.set 3 (.cst (.int 0))) (.cons (.set 4 (.cst (.int 0))) (.cons (.forr (.nm 5) (.seq (.var 0)) (.cons (.ife (.val (.cmp .eq (.var 5) (.cst (.str "give")))) (.cons (.set 1 (.bi .max (.cons (.var 1) (.cons (.bin .sub (.var 3) (.var 4)) (.nil))))) (.cons (.aug 3 .add (.cst (.int 1))) (.nil))) (.cons (.ife (.val (.cmp .ne (.var 5) (.cst (.str "house")))) (.cons (.set 2 (.or (.var 2) (.cmp .ne (.call 31 [] false (.cons (.var 5) (.nil))) (.var 3)))) (.cons (.set 4 (.bi .max (.cons (.var 4) (.cons (.call 31 [] false (.cons (.var 5) (.nil))) (.nil))))) (.nil))) (.nil)) (.nil))) (.nil))) (.cons (.ret (.make 0 9 [] false (.cons (.var 1) (.cons (.var 2) (.cons (.cmp .isin (.cst (.str "house")) (.var 0)) (.nil)))))) (.nil))))))
def dI_least_terms : DefI := ⟨"least_terms", "least_terms", s_least_terms, n_least_terms, p_least_terms, [], ir_least_terms, ("least_terms", none), [], false, false⟩
abbrev s_is_word : Stmt := top 27
abbrev n_is_word : List Str := ["value"]
abbrev p_is_word : List Str := ["value"]
def ir_is_word : IBs := .cons (.ret (.and (.isi [0, 1, 2, 3, 4, 5] (.var 0) [.str]) (.cmp .isin (.var 0) (.cst kd_WORDS)))) (.nil)
def dI_is_word : DefI := ⟨"is_word", "is_word", s_is_word, n_is_word, p_is_word, [], ir_is_word, ("is_word", none), [], false, false⟩
abbrev s_are_tests : Stmt := top 31
abbrev n_are_tests : List Str := ["value", "test"]
abbrev p_are_tests : List Str := ["value"]
def ir_are_tests : IBs := .cons (.ret (.and (.call 17 [] false (.cons (.var 0) (.nil))) (.bi .all (.cons (.lc false [1] (.nm 1) (.seq (.var 0)) (.tt) (.call 32 [] false (.cons (.var 1) (.nil)))) (.nil))))) (.nil)
def dI_are_tests : DefI := ⟨"are_tests", "are_tests", s_are_tests, n_are_tests, p_are_tests, [], ir_are_tests, ("are_tests", none), [], false, false⟩
abbrev s_are_deeds : Stmt := top 32
abbrev n_are_deeds : List Str := ["value", "word", "deed"]
abbrev p_are_deeds : List Str := ["value", "word"]
def ir_are_deeds : IBs := .cons (.ife (.or (.not (.val (.call 17 [] false (.cons (.var 0) (.nil))))) (.not (.val (.bi .all (.cons (.lc false [2] (.nm 2) (.seq (.var 0)) (.tt) (.call 33 [] false (.cons (.var 2) (.nil)))) (.nil)))))) (.cons (.ret (.cst (.bl false))) (.nil)) (.nil)) (.cons (.ret (.or (.cmp .eq (.bi .len (.cons (.var 0) (.nil))) (.cst (.int 0))) (.and (.cmp .isin (.var 1) (.cst kd_WORDS_WITH_DEEDS)) (.cmp .isin (.cst (.str "learn")) (.var 0))))) (.nil))
def dI_are_deeds : DefI := ⟨"are_deeds", "are_deeds", s_are_deeds, n_are_deeds, p_are_deeds, [], ir_are_deeds, ("are_deeds", none), [], false, false⟩
abbrev s_is_opens : Stmt := top 33
abbrev n_is_opens : List Str := ["value", "word"]
abbrev p_is_opens : List Str := ["value", "word"]
def ir_is_opens : IBs := .cons (.ret (.and (.isi [0, 1, 2, 3, 4, 5] (.var 0) [.bl]) (.or (.var 0) (.cmp .ne (.var 1) (.cst (.str "house")))))) (.nil)
def dI_is_opens : DefI := ⟨"is_opens", "is_opens", s_is_opens, n_is_opens, p_is_opens, [], ir_is_opens, ("is_opens", none), [], false, false⟩
abbrev s_is_integer : Stmt := top 11
abbrev n_is_integer : List Str := ["value"]
abbrev p_is_integer : List Str := ["value"]
def ir_is_integer : IBs := .cons (.ret (.and (.isi [0, 1, 2, 3, 4, 5] (.var 0) [.int]) (.not (.isi [0, 1, 2, 3, 4, 5] (.var 0) [.bl])))) (.nil)
def dI_is_integer : DefI := ⟨"is_integer", "is_integer", s_is_integer, n_is_integer, p_is_integer, [], ir_is_integer, ("is_integer", none), [], false, false⟩
abbrev s_are_rows : Stmt := top 37
abbrev n_are_rows : List Str := ["value", "row"]
abbrev p_are_rows : List Str := ["value"]
def ir_are_rows : IBs := .cons (.ret (.and (.call 17 [] false (.cons (.var 0) (.nil))) (.bi .all (.cons (.lc false [1] (.nm 1) (.seq (.var 0)) (.tt) (.isi [0, 1, 2, 3, 4, 5] (.var 1) [.cls 2])) (.nil))))) (.nil)
def dI_are_rows : DefI := ⟨"are_rows", "are_rows", s_are_rows, n_are_rows, p_are_rows, [], ir_are_rows, ("are_rows", none), [], false, false⟩
abbrev s_names_in : Stmt := top 39
abbrev n_names_in : List Str := ["row", "text"]
abbrev p_names_in : List Str := ["row"]
def ir_names_in : IBs := .cons (.ret (.lc false [1] (.nm 1) (.seq (.bin .add (.fld [2] "tests" (.var 0)) (.fld [2] "deeds" (.var 0)))) (.val (.cmp .ne (.var 1) (.cst (.str "learn")))) (.call 34 [] false (.cons (.var 1) (.nil))))) (.nil)
def dI_names_in : DefI := ⟨"names_in", "names_in", s_names_in, n_names_in, p_names_in, [], ir_names_in, ("names_in", none), [], false, false⟩
abbrev s_Pair_init : Stmt := inClass (top 51) 0
abbrev n_Pair_init : List Str := ["self", "p", "q", "skips"]
abbrev p_Pair_init : List Str := ["self", "p", "q", "skips"]
def ir_Pair_init : IBs := .cons (.fldS [5] (.var 0) "doors" (.tup (.cons (.make 4 35 [] false (.cons (.var 1) (.nil))) (.cons (.make 4 35 [] false (.cons (.var 2) (.nil))) (.nil))))) (.cons (.fldS [0, 5] (.var 0) "skips" (.var 3)) (.nil))
def dI_Pair_init : DefI := ⟨"__init__", "Pair.__init__", s_Pair_init, n_Pair_init, p_Pair_init, [], ir_Pair_init, ("Pair", some "__init__"), [], false, false⟩
abbrev s_Pair_steps : Stmt := inClass (top 51) 1
abbrev n_Pair_steps : List Str := ["self", "state", "places", "newest", "tried", "steps", "same", "behind"]
abbrev p_Pair_steps : List Str := ["self", "state"]
def ir_Pair_steps : IBs := .cons (.unp [2, 3, 4] (.var 1)) (.cons (.set 5 (.lst true (.nil))) (.cons (.ife (.or (.val (.cmp .isN (.fld [0, 5] "skips" (.var 0)) (.cst .non))) (.val (.cmp .le (.bin .sub (.var 3) (.var 4)) (.fld [0, 5] "skips" (.var 0))))) (.cons (.expr (.bm .append (.var 5) (.cons (.tup (.cons (.cst (.str "give")) (.cons (.cst (.bl true)) (.cons (.tup (.cons (.var 2) (.cons (.bin .add (.var 3) (.cst (.int 1))) (.cons (.var 4) (.nil))))) (.nil))))) (.nil)))) (.nil)) (.nil)) (.cons (.ife (.val (.cmp .gt (.var 3) (.cst (.int 0)))) (.cons (.expr (.bm .append (.var 5) (.cons (.tup (.cons (.cst (.str "house")) (.cons (.cst (.bl true)) (.cons (.tup (.cons (.meth "_behind_house" [(5, 36)] [] false (.var 0) (.cons (.var 2) (.cons (.var 3) (.nil)))) (.cons (.var 3) (.cons (.var 4) (.nil))))) (.nil))))) (.nil)))) (.cons (.unp [6, 7] (.meth "_behind_try" [(5, 37)] [] false (.var 0) (.cons (.var 2) (.cons (.var 3) (.nil))))) (.cons (.expr (.bm .append (.var 5) (.cons (.tup (.cons (.fstr "try " (.var 3)) (.cons (.var 6) (.cons (.tup (.cons (.var 7) (.cons (.var 3) (.cons (.var 3) (.nil))))) (.nil))))) (.nil)))) (.nil)))) (.nil)) (.cons (.ret (.var 5)) (.nil)))))
def dI_Pair_steps : DefI := ⟨"steps", "Pair.steps", s_Pair_steps, n_Pair_steps, p_Pair_steps, [], ir_Pair_steps, ("Pair", some "steps"), [], false, false⟩
abbrev s_Pair_standing : Stmt := inClass (top 51) 4
abbrev n_Pair_standing : List Str := ["self", "state", "places", "newest", "tried", "near", "untried", "door", "number", "lot"]
abbrev p_Pair_standing : List Str := ["self", "state"]
def ir_Pair_standing : IBs := .cons (.unp [2, 3, 4] (.var 1)) (.cons (.set 5 (.lc false [7, 8, 9] (.nst 7 [8, 9]) (.zip (.fld [5] "doors" (.var 0)) (.var 2)) (.tt) (.tup (.cons (.bi .min (.cons (.bin .sub (.var 3) (.var 8)) (.cons (.bin .add (.fld [3, 4] "window" (.var 7)) (.cst (.int 1))) (.nil)))) (.cons (.var 9) (.nil)))))) (.cons (.set 6 (.ife (.val (.cmp .isN (.fld [0, 5] "skips" (.var 0)) (.cst .non))) (.cst (.int 0)) (.bi .min (.cons (.bin .sub (.var 3) (.var 4)) (.cons (.bin .add (.fld [0, 5] "skips" (.var 0)) (.cst (.int 1))) (.nil)))))) (.cons (.ret (.tup (.cons (.bi .tuple (.cons (.var 5) (.nil))) (.cons (.var 6) (.nil))))) (.nil))))
def dI_Pair_standing : DefI := ⟨"standing", "Pair.standing", s_Pair_standing, n_Pair_standing, p_Pair_standing, [], ir_Pair_standing, ("Pair", some "standing"), [], false, false⟩
abbrev s_is_possible : Stmt := top 19
abbrev n_is_possible : List Str := ["event", "given", "lead", "_", "digits", "card"]
abbrev p_is_possible : List Str := ["event", "given"]
def ir_is_possible : IBs := .cons (.ife (.not (.val (.isi [0, 1, 2, 3, 4, 5] (.var 0) [.str]))) (.cons (.ret (.cst (.bl false))) (.nil)) (.nil)) (.cons (.ife (.val (.cmp .isin (.var 0) (.tup (.cons (.cst (.str "give")) (.cons (.cst (.str "house")) (.nil)))))) (.cons (.ret (.or (.cmp .eq (.var 0) (.cst (.str "give"))) (.cmp .gt (.var 1) (.cst (.int 0))))) (.nil)) (.nil)) (.cons (.unp [2, 3, 4] (.bm .part (.var 0) (.cons (.cst (.str " ")) (.nil)))) (.cons (.set 5 (.call 8 [] false (.cons (.var 4) (.nil)))) (.cons (.ret (.and (.cmp .eq (.var 2) (.cst (.str "try"))) (.and (.cmp .notN (.var 5) (.cst .non)) (.cmp2 .le .le (.cst (.int 1)) (.var 5) (.var 1))))) (.nil)))))
def dI_is_possible : DefI := ⟨"is_possible", "is_possible", s_is_possible, n_is_possible, p_is_possible, [], ir_is_possible, ("is_possible", none), [], false, false⟩
abbrev s_card_in : Stmt := top 21
abbrev n_card_in : List Str := ["event"]
abbrev p_card_in : List Str := ["event"]
def ir_card_in : IBs := .cons (.ret (.bi .int (.cons (.bm .rmprefix (.var 0) (.cons (.cst (.str "try ")) (.nil))) (.nil)))) (.nil)
def dI_card_in : DefI := ⟨"card_in", "card_in", s_card_in, n_card_in, p_card_in, [], ir_card_in, ("card_in", none), [], false, false⟩
abbrev s_is_test : Stmt := top 29
abbrev n_is_test : List Str := ["value"]
abbrev p_is_test : List Str := ["value"]
def ir_is_test : IBs := .cons (.ret (.and (.isi [0, 1, 2, 3, 4, 5] (.var 0) [.str]) (.call 38 [] false (.cons (.var 0) (.cons (.tup (.cons (.cst (.str "marked")) (.cons (.cst (.str "not marked")) (.nil)))) (.nil)))))) (.nil)
def dI_is_test : DefI := ⟨"is_test", "is_test", s_is_test, n_is_test, p_is_test, [], ir_is_test, ("is_test", none), [], false, false⟩
abbrev s_is_deed : Stmt := top 30
abbrev n_is_deed : List Str := ["value"]
abbrev p_is_deed : List Str := ["value"]
def ir_is_deed : IBs := .cons (.ret (.and (.isi [0, 1, 2, 3, 4, 5] (.var 0) [.str]) (.or (.cmp .eq (.var 0) (.cst (.str "learn"))) (.call 38 [] false (.cons (.var 0) (.cons (.tup (.cons (.cst (.str "mark")) (.cons (.cst (.str "clear")) (.nil)))) (.nil))))))) (.nil)
def dI_is_deed : DefI := ⟨"is_deed", "is_deed", s_is_deed, n_is_deed, p_is_deed, [], ir_is_deed, ("is_deed", none), [], false, false⟩
abbrev s_name_in : Stmt := top 38
abbrev n_name_in : List Str := ["text"]
abbrev p_name_in : List Str := ["text"]
def ir_name_in : IBs := .cons (.ret (.ix (.bm .rpart (.var 0) (.cons (.cst (.str " ")) (.nil))) (.cst (.int 2)))) (.nil)
def dI_name_in : DefI := ⟨"name_in", "name_in", s_name_in, n_name_in, p_name_in, [], ir_name_in, ("name_in", none), [], false, false⟩
abbrev s_Door_init : Stmt := inClass (top 48) 0
abbrev n_Door_init : List Str := ["self", "tool", "words", "lot", "card", "word"]
abbrev p_Door_init : List Str := ["self", "tool"]
def ir_Door_init : IBs := .cons (.fldS [3, 4] (.var 0) "window" (.fld [3, 4] "window" (.var 1))) (.cons (.fldS [4] (.var 0) "lots" (.lst true (.cons (.tup (.nil)) (.nil)))) (.cons (.fldS [4] (.var 0) "tries" (.lst true (.nil))) (.cons (.fldS [4] (.var 0) "houses" (.lst true (.nil))) (.cons (.set 2 (.lc false [4] (.nm 4) (.rng (.bin .add (.fld [3, 4] "window" (.var 1)) (.cst (.int 4)))) (.tt) (.call 39 [] false (.cons (.fld [3, 4] "window" (.var 1)) (.cons (.cst (.int 2)) (.cons (.var 4) (.nil))))))) (.cons (.whl (.val (.cmp .lt (.bi .len (.cons (.fld [4] "tries" (.var 0)) (.nil))) (.bi .len (.cons (.fld [4] "lots" (.var 0)) (.nil))))) (.cons (.set 3 (.ix (.fld [4] "lots" (.var 0)) (.bi .len (.cons (.fld [4] "tries" (.var 0)) (.nil))))) (.cons (.expr (.bm .append (.fld [4] "tries" (.var 0)) (.cons (.lc false [5] (.nm 5) (.seq (.var 2)) (.tt) (.meth "_at_lots" [(4, 40)] [] true (.var 0) (.cons (.meth "deal" [(3, 41)] [] false (.var 1) (.cons (.var 5) (.cons (.var 3) (.nil)))) (.nil)))) (.nil)))) (.cons (.expr (.bm .append (.fld [4] "houses" (.var 0)) (.cons (.meth "_at_lots" [(4, 40)] [] true (.var 0) (.cons (.meth "deal" [(3, 41)] [] false (.var 1) (.cons (.cst (.str "house")) (.cons (.var 3) (.nil)))) (.nil))) (.nil)))) (.nil))))) (.nil))))))
def dI_Door_init : DefI := ⟨"__init__", "Door.__init__", s_Door_init, n_Door_init, p_Door_init, [], ir_Door_init, ("Door", some "__init__"), [], false, false⟩
abbrev s_Pair__behind_house : Stmt := inClass (top 51) 2
abbrev n_Pair__behind_house : List Str := ["self", "places", "newest", "told", "door", "number", "lot", "_"]
abbrev p_Pair__behind_house : List Str := ["self", "places", "newest"]
def ir_Pair__behind_house : IBs := .cons (.set 3 (.lc false [4, 5, 6] (.nst 4 [5, 6]) (.zip (.fld [5] "doors" (.var 0)) (.var 1)) (.tt) (.meth "behind_house" [(4, 42)] [] false (.var 4) (.cons (.var 5) (.cons (.var 6) (.cons (.var 2) (.nil))))))) (.cons (.ret (.bi .tuple (.cons (.lc false [5, 6, 7] (.tp [5, 6, 7]) (.seq (.var 3)) (.tt) (.tup (.cons (.var 5) (.cons (.var 6) (.nil))))) (.nil)))) (.nil))
def dI_Pair__behind_house : DefI := ⟨"_behind_house", "Pair._behind_house", s_Pair__behind_house, n_Pair__behind_house, p_Pair__behind_house, [], ir_Pair__behind_house, ("Pair", some "_behind_house"), [], false, false⟩
abbrev s_Pair__behind_try : Stmt := inClass (top 51) 3
abbrev n_Pair__behind_try : List Str := ["self", "places", "newest", "told", "same", "door", "number", "lot", "_"]
abbrev p_Pair__behind_try : List Str := ["self", "places", "newest"]
def ir_Pair__behind_try : IBs := .cons (.set 3 (.lc false [5, 6, 7] (.nst 5 [6, 7]) (.zip (.fld [5] "doors" (.var 0)) (.var 1)) (.tt) (.meth "behind_try" [(4, 43)] [] false (.var 5) (.cons (.var 6) (.cons (.var 7) (.cons (.var 2) (.nil))))))) (.cons (.set 4 (.cmp .eq (.ix (.ix (.var 3) (.cst (.int 0))) (.cst (.int 0))) (.ix (.ix (.var 3) (.cst (.int 1))) (.cst (.int 0))))) (.cons (.ret (.tup (.cons (.var 4) (.cons (.bi .tuple (.cons (.lc false [8, 6, 7] (.tp [8, 6, 7, 8]) (.seq (.var 3)) (.tt) (.tup (.cons (.var 6) (.cons (.var 7) (.nil))))) (.nil))) (.nil))))) (.nil)))
def dI_Pair__behind_try : DefI := ⟨"_behind_try", "Pair._behind_try", s_Pair__behind_try, n_Pair__behind_try, p_Pair__behind_try, [], ir_Pair__behind_try, ("Pair", some "_behind_try"), [], false, false⟩
abbrev s_is_lead_and_name : Stmt := top 28
abbrev n_is_lead_and_name : List Str := ["text", "leads", "lead", "_", "name"]
abbrev p_is_lead_and_name : List Str := ["text", "leads"]
def ir_is_lead_and_name : IBs := .cons (.unp [2, 3, 4] (.bm .rpart (.var 0) (.cons (.cst (.str " ")) (.nil)))) (.cons (.ret (.and (.cmp .isin (.var 2) (.var 1)) (.call 44 [] false (.cons (.var 4) (.nil))))) (.nil))
def dI_is_lead_and_name : DefI := ⟨"is_lead_and_name", "is_lead_and_name", s_is_lead_and_name, n_is_lead_and_name, p_is_lead_and_name, [], ir_is_lead_and_name, ("is_lead_and_name", none), [], false, false⟩
abbrev s_word_for : Stmt := top 41
abbrev n_word_for : List Str := ["window", "number", "card", "ahead"]
abbrev p_word_for : List Str := ["window", "number", "card"]
def ir_word_for : IBs := .cons (.set 3 (.bin .sub (.var 2) (.var 1))) (.cons (.ife (.val (.cmp .eq (.var 3) (.cst (.int 0)))) (.cons (.ret (.cst (.str "same"))) (.nil)) (.nil)) (.cons (.ife (.val (.cmp .eq (.var 3) (.cst (.int 1)))) (.cons (.ret (.cst (.str "next"))) (.nil)) (.nil)) (.cons (.ife (.val (.cmp .gt (.var 3) (.var 0))) (.cons (.ret (.cst (.str "far"))) (.nil)) (.nil)) (.cons (.ife (.val (.cmp .gt (.var 3) (.cst (.int 1)))) (.cons (.ret (.cst (.str "near"))) (.nil)) (.nil)) (.cons (.ret (.ife (.val (.cmp .eq (.var 3) (.neg (.cst (.int 1))))) (.cst (.str "last")) (.cst (.str "elder")))) (.nil))))))
def dI_word_for : DefI := ⟨"word_for", "word_for", s_word_for, n_word_for, p_word_for, [], ir_word_for, ("word_for", none), [], false, false⟩
abbrev s_Door__at_lots : Stmt := inClass (top 48) 1
abbrev n_Door__at_lots : List Str := ["self", "answer", "opens", "learns", "marks", "row"]
abbrev p_Door__at_lots : List Str := ["self", "answer"]
def ir_Door__at_lots : IBs := .cons (.unp [2, 3, 4, 5] (.var 1)) (.cons (.ife (.val (.cmp .nin (.var 4) (.fld [4] "lots" (.var 0)))) (.cons (.expr (.bm .append (.fld [4] "lots" (.var 0)) (.cons (.var 4) (.nil)))) (.nil)) (.nil)) (.cons (.ret (.tup (.cons (.var 2) (.cons (.var 3) (.cons (.bm .index (.fld [4] "lots" (.var 0)) (.cons (.var 4) (.nil))) (.cons (.var 5) (.nil))))))) (.nil)))
def dI_Door__at_lots : DefI := ⟨"_at_lots", "Door._at_lots", s_Door__at_lots, n_Door__at_lots, p_Door__at_lots, [], ir_Door__at_lots, ("Door", some "_at_lots"), [], false, false⟩
abbrev s_Tool_deal : Stmt := inClass (top 45) 6
abbrev n_Tool_deal : List Str := ["self", "word", "marks", "at", "row"]
abbrev p_Tool_deal : List Str := ["self", "word", "marks"]
def ir_Tool_deal : IBs := .cons (.forr (.tp [3, 4]) (.enum 0 (.fld [3] "rows" (.var 0))) (.cons (.ife (.val (.call 45 [] false (.cons (.var 4) (.cons (.var 1) (.cons (.var 2) (.nil)))))) (.cons (.ret (.tup (.cons (.fld [2] "opens" (.var 4)) (.cons (.cmp .isin (.cst (.str "learn")) (.fld [2] "deeds" (.var 4))) (.cons (.call 46 [] false (.cons (.fld [2] "deeds" (.var 4)) (.cons (.var 2) (.nil)))) (.cons (.var 3) (.nil))))))) (.nil)) (.nil)) (.nil))) (.cons (.ret (.tup (.cons (.cst (.bl false)) (.cons (.cst (.bl false)) (.cons (.bi .tuple (.cons (.bi .sorted (.cons (.var 2) (.nil))) (.nil))) (.cons (.cst .non) (.nil))))))) (.nil))
def dI_Tool_deal : DefI := ⟨"deal", "Tool.deal", s_Tool_deal, n_Tool_deal, p_Tool_deal, [], ir_Tool_deal, ("Tool", some "deal"), [], false, false⟩
abbrev s_Door_behind_house : Stmt := inClass (top 48) 4
abbrev n_Door_behind_house : List Str := ["self", "number", "lot", "newest", "_", "learns", "row"]
abbrev p_Door_behind_house : List Str := ["self", "number", "lot", "newest"]
def ir_Door_behind_house : IBs := .cons (.ife (.val (.cmp .le (.var 3) (.var 1))) (.cons (.ret (.tup (.cons (.var 1) (.cons (.var 2) (.cons (.cst .non) (.nil)))))) (.nil)) (.nil)) (.cons (.unp [4, 5, 2, 6] (.ix (.fld [4] "houses" (.var 0)) (.var 2))) (.cons (.ret (.tup (.cons (.ife (.val (.var 5)) (.var 3) (.var 1)) (.cons (.var 2) (.cons (.var 6) (.nil)))))) (.nil)))
def dI_Door_behind_house : DefI := ⟨"behind_house", "Door.behind_house", s_Door_behind_house, n_Door_behind_house, p_Door_behind_house, [], ir_Door_behind_house, ("Door", some "behind_house"), [], false, false⟩
abbrev s_Door_behind_try : Stmt := inClass (top 48) 3
abbrev n_Door_behind_try : List Str := ["self", "number", "lot", "card", "opens", "learns", "row"]
abbrev p_Door_behind_try : List Str := ["self", "number", "lot", "card"]
def ir_Door_behind_try : IBs := .cons (.unp [4, 5, 2, 6] (.meth "answer" [(4, 48)] [] false (.var 0) (.cons (.var 2) (.cons (.bin .sub (.var 3) (.var 1)) (.nil))))) (.cons (.ret (.tup (.cons (.var 4) (.cons (.ife (.val (.var 5)) (.var 3) (.var 1)) (.cons (.var 2) (.cons (.var 6) (.nil))))))) (.nil))
def dI_Door_behind_try : DefI := ⟨"behind_try", "Door.behind_try", s_Door_behind_try, n_Door_behind_try, p_Door_behind_try, [], ir_Door_behind_try, ("Door", some "behind_try"), [], false, false⟩
abbrev s_is_name : Stmt := top 14
abbrev n_is_name : List Str := ["value"]
abbrev p_is_name : List Str := ["value"]
def ir_is_name : IBs := .cons (.ife (.or (.not (.val (.isi [0, 1, 2, 3, 4, 5] (.var 0) [.str]))) (.not (.val (.cmp2 .le .le (.cst (.int 1)) (.bi .len (.cons (.var 0) (.nil))) (.cst (.int 4)))))) (.cons (.ret (.cst (.bl false))) (.nil)) (.nil)) (.cons (.ret (.and (.bm .isascii (.var 0) .nil) (.and (.bm .isalpha (.var 0) .nil) (.and (.bm .islower (.var 0) .nil) (.cmp .nin (.var 0) (.cst kd_NOT_NAMES)))))) (.nil))
def dI_is_name : DefI := ⟨"is_name", "is_name", s_is_name, n_is_name, p_is_name, [], ir_is_name, ("is_name", none), [], false, false⟩
abbrev s_is_for : Stmt := top 43
abbrev n_is_for : List Str := ["row", "word", "marks", "test"]
abbrev p_is_for : List Str := ["row", "word", "marks"]
def ir_is_for : IBs := .cons (.ret (.and (.cmp .eq (.fld [2] "word" (.var 0)) (.var 1)) (.bi .all (.cons (.lc false [3] (.nm 3) (.seq (.fld [2] "tests" (.var 0))) (.tt) (.call 49 [] false (.cons (.var 3) (.cons (.var 2) (.nil))))) (.nil))))) (.nil)
def dI_is_for : DefI := ⟨"is_for", "is_for", s_is_for, n_is_for, p_is_for, [], ir_is_for, ("is_for", none), [], false, false⟩
abbrev s_marks_behind : Stmt := top 44
abbrev n_marks_behind : List Str := ["deeds", "marks", "kept", "deed"]
abbrev p_marks_behind : List Str := ["deeds", "marks"]
def ir_marks_behind : IBs := .cons (.set 2 (.bi .set (.cons (.var 1) (.nil)))) (.cons (.forr (.nm 3) (.seq (.var 0)) (.cons (.ife (.val (.bm .starts (.var 3) (.cons (.cst (.str "mark ")) (.nil)))) (.cons (.expr (.bm .add (.var 2) (.cons (.call 34 [] false (.cons (.var 3) (.nil))) (.nil)))) (.nil)) (.nil)) (.cons (.ife (.val (.bm .starts (.var 3) (.cons (.cst (.str "clear ")) (.nil)))) (.cons (.expr (.bm .discard (.var 2) (.cons (.call 34 [] false (.cons (.var 3) (.nil))) (.nil)))) (.nil)) (.nil)) (.nil)))) (.cons (.ret (.bi .tuple (.cons (.bi .sorted (.cons (.var 2) (.nil))) (.nil)))) (.nil)))
def dI_marks_behind : DefI := ⟨"marks_behind", "marks_behind", s_marks_behind, n_marks_behind, p_marks_behind, [], ir_marks_behind, ("marks_behind", none), [], false, false⟩
abbrev s_Tool_answer : Stmt := inClass (top 45) 4
abbrev n_Tool_answer : List Str := ["self", "number", "marks", "card", "opens", "learns", "behind", "at"]
abbrev p_Tool_answer : List Str := ["self", "number", "marks", "card"]
def ir_Tool_answer : IBs := .cons (.unp [4, 5, 6, 7] (.meth "deal" [(3, 41)] [] false (.var 0) (.cons (.call 39 [] false (.cons (.fld [3, 4] "window" (.var 0)) (.cons (.var 1) (.cons (.var 3) (.nil))))) (.cons (.var 2) (.nil))))) (.cons (.ret (.tup (.cons (.var 4) (.cons (.ife (.val (.var 5)) (.var 3) (.var 1)) (.cons (.var 6) (.cons (.var 7) (.nil))))))) (.nil))
def dI_Tool_answer : DefI := ⟨"answer", "Tool.answer", s_Tool_answer, n_Tool_answer, p_Tool_answer, [], ir_Tool_answer, ("Tool", some "answer"), [], false, false⟩
abbrev s_Door_answer : Stmt := inClass (top 48) 2
abbrev n_Door_answer : List Str := ["self", "lot", "ahead"]
abbrev p_Door_answer : List Str := ["self", "lot", "ahead"]
def ir_Door_answer : IBs := .cons (.ret (.ix (.ix (.fld [4] "tries" (.var 0)) (.var 1)) (.bin .sub (.bi .max (.cons (.cst (.int (-2))) (.cons (.bi .min (.cons (.var 2) (.cons (.bin .add (.fld [3, 4] "window" (.var 0)) (.cst (.int 1))) (.nil)))) (.nil)))) (.cst (.int (-2)))))) (.nil)
def dI_Door_answer : DefI := ⟨"answer", "Door.answer", s_Door_answer, n_Door_answer, p_Door_answer, [], ir_Door_answer, ("Door", some "answer"), [], false, false⟩
abbrev s_is_fulfilled : Stmt := top 42
abbrev n_is_fulfilled : List Str := ["test", "marks"]
abbrev p_is_fulfilled : List Str := ["test", "marks"]
def ir_is_fulfilled : IBs := .cons (.ret (.cmp .ne (.cmp .isin (.call 34 [] false (.cons (.var 0) (.nil))) (.var 1)) (.bm .starts (.var 0) (.cons (.cst (.str "not ")) (.nil))))) (.nil)
def dI_is_fulfilled : DefI := ⟨"is_fulfilled", "is_fulfilled", s_is_fulfilled, n_is_fulfilled, p_is_fulfilled, [], ir_is_fulfilled, ("is_fulfilled", none), [], false, false⟩
abbrev s_Story_len : Stmt := inClass (top 23) 5
abbrev n_Story_len : List Str := ["self"]
abbrev p_Story_len : List Str := ["self"]
def ir_Story_len : IBs := .cons (.ret (.bi .len (.cons (.fld [1] "events" (.var 0)) (.nil)))) (.nil)
def dI_Story_len : DefI := ⟨"__len__", "Story.__len__", s_Story_len, n_Story_len, p_Story_len, [], ir_Story_len, ("Story", some "__len__"), [], false, false⟩
abbrev s_law : Stmt := top 60
abbrev n_law : List Str := ["_law_script", "_law_spot", "_law_box", "_law_one", "_law_other", "_law_skips", "_law_due", "_law_p", "_law_q", "_law_told", "_law_back", "_law_side"]
abbrev p_law : List Str := ["_law_script"]
def ir_law : IBs := .cons (.forr (.nm 1) (.rng (.bi .max (.cons (.cst (.int 1)) (.cons (.bi .min (.cons (.cst (.int 3)) (.cons (.bi .len (.cons (.var 0) (.nil))) (.nil)))) (.nil))))) (.cons (.set 2 (.call 0 [] true (.cons (.var 0) (.cons (.var 1) (.nil))))) (.cons (.forr (.tp [3, 4, 5, 6]) (.seq (.call 1 [] true (.cons (.var 2) (.cons (.call 2 [] true .nil) (.nil))))) (.cons (.unp [7, 8] (.lc false [11] (.nm 11) (.seq (.tup (.cons (.var 3) (.cons (.var 4) (.nil))))) (.tt) (.cmeth 3 4 [] false (.cst (.cls 3)) (.cons (.bm .join (.cst (.str "\n")) (.cons (.bin .add (.lst false (.cons (.bin .add (.cst (.str "window ")) (.bi .str (.cons (.ix (.var 11) (.cst (.int 0))) (.nil)))) (.nil))) (.bi .listT (.cons (.ix (.var 11) (.cst (.int 1))) (.nil)))) (.nil))) (.nil))))) (.cons (.par 9 10 (.call 5 [] false (.cons (.var 7) (.cons (.var 8) (.cons (.var 5) (.nil))))) (.call 5 [] false (.cons (.var 8) (.cons (.var 7) (.cons (.var 5) (.nil)))))) (.cons (.ife (.val (.cmp .ne (.bi .repr (.cons (.call 6 [] false (.cons (.var 7) (.cons (.var 8) (.cons (.var 5) (.nil))))) (.nil))) (.bi .repr (.cons (.cmp .eq (.var 6) (.cst (.int 0))) (.nil))))) (.cons (.ret (.cst (.bl false))) (.nil)) (.nil)) (.cons (.ife (.or (.val (.cmp .ne (.cmp .isN (.var 9) (.cst .non)) (.cmp .eq (.var 6) (.cst (.int 0))))) (.val (.cmp .ne (.cmp .isN (.var 10) (.cst .non)) (.cmp .eq (.var 6) (.cst (.int 0)))))) (.cons (.ret (.cst (.bl false))) (.nil)) (.nil)) (.cons (.ife (.and (.val (.cmp .gt (.var 6) (.cst (.int 0)))) (.or (.val (.cmp .ne (.lenm [(1, 50)] false (.var 9)) (.var 6))) (.val (.cmp .ne (.lenm [(1, 50)] false (.var 10)) (.var 6))))) (.cons (.ret (.cst (.bl false))) (.nil)) (.nil)) (.nil))))))) (.cons (.par 7 8 (.cmeth 3 4 [] false (.cst (.cls 3)) (.cons (.cst (.str "window 3\nfar open")) (.nil))) (.cmeth 3 4 [] false (.cst (.cls 3)) (.cons (.cst (.str "window 3\nfar shut")) (.nil)))) (.cons (.ife (.or (.val (.cmp .ne (.fld [1] "events" (.call 5 [] false (.cons (.var 7) (.cons (.var 8) (.cons (.cst .non) (.nil)))))) (.bin .add (.bin .mul (.tup (.cons (.cst (.str "give")) (.nil))) (.cst (.int 4))) (.tup (.cons (.cst (.str "try 4")) (.nil)))))) (.val (.call 6 [] false (.cons (.var 7) (.cons (.var 8) (.cons (.cst (.int 0)) (.nil))))))) (.cons (.ret (.cst (.bl false))) (.nil)) (.nil)) (.nil)))))) (.cons (.ret (.cst (.bl true))) (.nil))
def dI_law : DefI := ⟨"law", "law", s_law, n_law, p_law, [], ir_law, ("law", none), [], false, false⟩
def tab : Tab := ⟨(dI__law_feed :: dI__law_mixed :: dI__law_known :: dI_Row_read :: dI_Tool_read :: dI_parting :: dI_alike :: dI__law_take :: dI_short_number :: dI_Terms_init :: dI_Story_init :: dI_Row_init :: dI_is_window :: dI_Tool_init :: dI_read_line :: dI_parting_events :: dI_is_number :: dI_is_sequence :: dI_first_wrong :: dI_least_terms :: dI_is_word :: dI_are_tests :: dI_are_deeds :: dI_is_opens :: dI_is_integer :: dI_are_rows :: dI_names_in :: dI_Pair_init :: dI_Pair_steps :: dI_Pair_standing :: dI_is_possible :: dI_card_in :: dI_is_test :: dI_is_deed :: dI_name_in :: dI_Door_init :: dI_Pair__behind_house :: dI_Pair__behind_try :: dI_is_lead_and_name :: dI_word_for :: dI_Door__at_lots :: dI_Tool_deal :: dI_Door_behind_house :: dI_Door_behind_try :: dI_is_name :: dI_is_for :: dI_marks_behind :: dI_Tool_answer :: dI_Door_answer :: dI_is_fulfilled :: dI_Story_len :: dI_law :: []),
  (("_law_feed", 0) :: ("_law_known", 2) :: ("_law_mixed", 1) :: ("_law_take", 7) :: ("alike", 6) :: ("are_deeds", 22) :: ("are_rows", 25) :: ("are_tests", 21) :: ("card_in", 31) :: ("first_wrong", 18) :: ("is_deed", 33) :: ("is_for", 45) :: ("is_fulfilled", 49) :: ("is_integer", 24) :: ("is_lead_and_name", 38) :: ("is_name", 44) :: ("is_number", 16) :: ("is_opens", 23) :: ("is_possible", 30) :: ("is_sequence", 17) :: ("is_test", 32) :: ("is_window", 12) :: ("is_word", 20) :: ("law", 51) :: ("least_terms", 19) :: ("marks_behind", 46) :: ("name_in", 34) :: ("names_in", 26) :: ("parting", 5) :: ("parting_events", 15) :: ("read_line", 14) :: ("short_number", 8) :: ("word_for", 39) :: []),
  ((0, 2) :: (1, 2) :: (2, 0) :: (3, 2) :: (4, 2) :: (5, 3) :: (6, 3) :: (7, 2) :: (8, 1) :: (9, 4) :: (10, 2) :: (11, 5) :: (12, 1) :: (13, 3) :: (14, 2) :: (15, 3) :: (16, 1) :: (17, 1) :: (18, 1) :: (19, 1) :: (20, 1) :: (21, 1) :: (22, 2) :: (23, 2) :: (24, 1) :: (25, 1) :: (26, 1) :: (27, 4) :: (28, 2) :: (29, 2) :: (30, 2) :: (31, 1) :: (32, 1) :: (33, 1) :: (34, 1) :: (35, 2) :: (36, 3) :: (37, 3) :: (38, 2) :: (39, 3) :: (40, 2) :: (41, 3) :: (42, 4) :: (43, 4) :: (44, 1) :: (45, 3) :: (46, 2) :: (48, 3) :: (49, 2) :: (50, 1) :: (51, 1) :: []),
  ["Terms", "Story", "Row", "Tool", "Door", "Pair"],
  [(0, 9), (1, 10), (2, 11), (3, 13), (4, 35), (5, 27)],
  [(1, "__len__", 50), (3, "deal", 41), (4, "_at_lots", 40), (4, "answer", 48), (4, "behind_house", 42), (4, "behind_try", 43), (5, "_behind_house", 36), (5, "_behind_try", 37), (5, "standing", 29), (5, "steps", 28)],
  ((0, "elder") :: (0, "house") :: (0, "skips") :: (1, "events") :: (1, "needs") :: (2, "deeds") :: (2, "opens") :: (2, "tests") :: (2, "word") :: (3, "marks") :: (3, "rows") :: (3, "window") :: (4, "houses") :: (4, "lots") :: (4, "tries") :: (4, "window") :: (5, "doors") :: (5, "skips") :: []),
  [0, 1, 2, 3, 4, 5],
  ("abs" :: "all" :: "bool" :: "enumerate" :: "int" :: "isinstance" :: "len" :: "list" :: "max" :: "min" :: "range" :: "repr" :: "set" :: "sorted" :: "str" :: "tuple" :: "zip" :: []),
  [("NOT_NAMES", kd_NOT_NAMES), ("START", kd_START), ("WORDS", kd_WORDS), ("WORDS_WITH_DEEDS", kd_WORDS_WITH_DEEDS)],
  [(2, "read", 3), (3, "read", 4)],
  [],
  [],
  [("ELDER", -2)]⟩
variable {A : Adr} {W : Wd}
theorem sb__law_feed : SB tab A W ⟨n__law_feed, defScope s__law_feed, true⟩ (defBody s__law_feed) ir__law_feed := sb_cons (s1_setLc (i := 2) (own := [("_law_cell", 4)]) (vs := [4]) (itg := .nm 4) (ob := false) (by kernel_rfl) (by kernel_rfl) rfl (by kernel_rfl) rfl rfl (by kernel_rfl) (si_seq (se_slc (se_var (i := 0) (by kernel_rfl)) (so_at (se_var (i := 1) (by kernel_rfl))) (so_at (se_bin (op := .add) (se_var (i := 1) (by kernel_rfl)) (se_int))))) (sg_nm (by kernel_rfl)) (sts_nil) (se_bi (f := .abs) rfl (by kernel_rfl) (mb (by kernel_rfl)) (by kernel_rfl) (by kernel_rfl) (sa_cons (by kernel_rfl) (se_bi (f := .int) rfl (by kernel_rfl) (mb (by kernel_rfl)) (by kernel_rfl) (by kernel_rfl) (sa_cons (by kernel_rfl) (se_var (i := 4) (by kernel_rfl)) (sa_nil))) (sa_nil)))) (sb_cons (s1_set (i := 3) (by kernel_rfl) rfl (se_bin (op := .add) (se_int) (se_bin (op := .mul) (se_int) (se_var (i := 1) (by kernel_rfl))))) (sb_cons (s1_for (itg := .nm 4) (by kernel_rfl) (si_seq (se_var (i := 2) (by kernel_rfl))) (sg_nm (by kernel_rfl)) (sb_cons (s1_set (i := 3) (by kernel_rfl) rfl (se_bin (op := .mod) (se_bi (f := .int) rfl (by kernel_rfl) (mb (by kernel_rfl)) (by kernel_rfl) (by kernel_rfl) (sa_cons (by kernel_rfl) (se_bin (op := .add) (se_bin (op := .add) (se_bi (f := .int) rfl (by kernel_rfl) (mb (by kernel_rfl)) (by kernel_rfl) (by kernel_rfl) (sa_cons (by kernel_rfl) (se_bin (op := .mul) (se_var (i := 3) (by kernel_rfl)) (se_int)) (sa_nil))) (se_bin (op := .mod) (se_bi (f := .int) rfl (by kernel_rfl) (mb (by kernel_rfl)) (by kernel_rfl) (by kernel_rfl) (sa_cons (by kernel_rfl) (se_var (i := 4) (by kernel_rfl)) (sa_nil))) (se_int))) (se_int)) (sa_nil))) (se_int))) (sb_nil))) (sb_cons (s1_ret (se_ddisp2 (se_rev (se_lc (own := [("_law_cell", 4)]) (vs := [4]) (itg := .nm 4) (ob := false) (by kernel_rfl) rfl rfl (by kernel_rfl) (si_seq (se_var (i := 2) (by kernel_rfl))) (sg_nm (by kernel_rfl)) (st_cmp (op := .ge) (by kernel_rfl) (se_var (i := 4) (by kernel_rfl)) (se_bin (op := .pow) (se_int) (se_int))) (se_var (i := 4) (by kernel_rfl)))) (se_var (i := 3) (by kernel_rfl)))) (sb_nil))))
theorem sb__law_mixed : SB tab A W ⟨n__law_mixed, defScope s__law_mixed, true⟩ (defBody s__law_mixed) ir__law_mixed := sb_cons (s1_par (i := 2) (j := 3) (by kernel_rfl) (by kernel_rfl) (by kernel_rfl) (by kernel_rfl) (by kernel_rfl) rfl (by kernel_rfl) (by kernel_rfl) (se_bi (f := .list) rfl (by kernel_rfl) (mb (by kernel_rfl)) (by kernel_rfl) (by kernel_rfl) (sa_cons (by kernel_rfl) (se_var (i := 1) (by kernel_rfl)) (sa_nil))) (se_lstO (sa_nil))) (sb_cons (s1_whl (st_cmp (op := .ne) (by kernel_rfl) (se_var (i := 2) (by kernel_rfl)) (se_lst (sa_nil))) (sb_cons (s1_expr rfl (se_bm (m := .append) rfl (by kernel_rfl) (by kernel_rfl) (by kernel_rfl) (by kernel_rfl) (by decide) (se_var (i := 3) (by kernel_rfl)) (sa_cons (by kernel_rfl) (se_bm (m := .popAt) rfl (by kernel_rfl) (by kernel_rfl) (by kernel_rfl) (by kernel_rfl) (by decide) (se_var (i := 2) (by kernel_rfl)) (sa_cons (by kernel_rfl) (se_call (n := 2) (d := dI__law_take) (sh := true) (by kernel_rfl) (mb (by kernel_rfl)) (by kernel_rfl) (mb (by kernel_rfl)) rfl rfl (by kernel_rfl) (by kernel_rfl) (sa_cons (by kernel_rfl) (se_var (i := 0) (by kernel_rfl)) (sa_cons (by kernel_rfl) (se_bi (f := .len) rfl (by kernel_rfl) (mb (by kernel_rfl)) (by kernel_rfl) (by kernel_rfl) (sa_cons (by kernel_rfl) (se_var (i := 2) (by kernel_rfl)) (sa_nil))) (sa_nil)))) (sa_nil))) (sa_nil)))) (sb_nil))) (sb_cons (s1_ret (se_var (i := 3) (by kernel_rfl))) (sb_nil)))
theorem sb__law_known : SB tab A W ⟨n__law_known, defScope s__law_known, true⟩ (defBody s__law_known) ir__law_known := sb_cons (s1_set (i := 0) (by kernel_rfl) rfl (se_lst (sa_cons (by kernel_rfl) (se_str) (sa_cons (by kernel_rfl) (se_str) (sa_cons (by kernel_rfl) (se_str) (sa_nil)))))) (sb_cons (s1_set (i := 1) (by kernel_rfl) rfl (se_bin (op := .add) (se_var (i := 0) (by kernel_rfl)) (se_lst (sa_cons (by kernel_rfl) (se_str) (sa_cons (by kernel_rfl) (se_str) (sa_nil)))))) (sb_cons (s1_set (i := 2) (by kernel_rfl) rfl (se_lstO (sa_cons (by kernel_rfl) (se_tup (sa_cons (by kernel_rfl) (se_tup (sa_cons (by kernel_rfl) (se_int) (sa_cons (by kernel_rfl) (se_var (i := 0) (by kernel_rfl)) (sa_nil)))) (sa_cons (by kernel_rfl) (se_tup (sa_cons (by kernel_rfl) (se_int) (sa_cons (by kernel_rfl) (se_var (i := 1) (by kernel_rfl)) (sa_nil)))) (sa_cons (by kernel_rfl) (se_non) (sa_cons (by kernel_rfl) (se_int) (sa_nil)))))) (sa_nil)))) (sb_cons (s1_set (i := 2) (by kernel_rfl) rfl (se_bin (op := .add) (se_var (i := 2) (by kernel_rfl)) (se_lst (sa_cons (by kernel_rfl) (se_tup (sa_cons (by kernel_rfl) (se_tup (sa_cons (by kernel_rfl) (se_int) (sa_cons (by kernel_rfl) (se_var (i := 0) (by kernel_rfl)) (sa_nil)))) (sa_cons (by kernel_rfl) (se_tup (sa_cons (by kernel_rfl) (se_int) (sa_cons (by kernel_rfl) (se_var (i := 0) (by kernel_rfl)) (sa_nil)))) (sa_cons (by kernel_rfl) (se_int) (sa_cons (by kernel_rfl) (se_int) (sa_nil)))))) (sa_cons (by kernel_rfl) (se_tup (sa_cons (by kernel_rfl) (se_tup (sa_cons (by kernel_rfl) (se_int) (sa_cons (by kernel_rfl) (se_var (i := 0) (by kernel_rfl)) (sa_nil)))) (sa_cons (by kernel_rfl) (se_tup (sa_cons (by kernel_rfl) (se_int) (sa_cons (by kernel_rfl) (se_var (i := 0) (by kernel_rfl)) (sa_nil)))) (sa_cons (by kernel_rfl) (se_int) (sa_cons (by kernel_rfl) (se_int) (sa_nil)))))) (sa_nil)))))) (sb_cons (s1_expr rfl (se_bm (m := .append) rfl (by kernel_rfl) (by kernel_rfl) (by kernel_rfl) (by kernel_rfl) (by decide) (se_var (i := 2) (by kernel_rfl)) (sa_cons (by kernel_rfl) (se_tup (sa_cons (by kernel_rfl) (se_tup (sa_cons (by kernel_rfl) (se_int) (sa_cons (by kernel_rfl) (se_var (i := 0) (by kernel_rfl)) (sa_nil)))) (sa_cons (by kernel_rfl) (se_tup (sa_cons (by kernel_rfl) (se_int) (sa_cons (by kernel_rfl) (se_slc (se_var (i := 0) (by kernel_rfl)) (so_no) (so_at (se_int))) (sa_nil)))) (sa_cons (by kernel_rfl) (se_non) (sa_cons (by kernel_rfl) (se_int) (sa_nil)))))) (sa_nil)))) (sb_cons (s1_expr rfl (se_bm (m := .append) rfl (by kernel_rfl) (by kernel_rfl) (by kernel_rfl) (by kernel_rfl) (by decide) (se_var (i := 2) (by kernel_rfl)) (sa_cons (by kernel_rfl) (se_tup (sa_cons (by kernel_rfl) (se_tup (sa_cons (by kernel_rfl) (se_int) (sa_cons (by kernel_rfl) (se_var (i := 0) (by kernel_rfl)) (sa_nil)))) (sa_cons (by kernel_rfl) (se_tup (sa_cons (by kernel_rfl) (se_int) (sa_cons (by kernel_rfl) (se_bin (op := .add) (se_var (i := 0) (by kernel_rfl)) (se_lst (sa_cons (by kernel_rfl) (se_str) (sa_nil)))) (sa_nil)))) (sa_cons (by kernel_rfl) (se_int) (sa_cons (by kernel_rfl) (se_int) (sa_nil)))))) (sa_nil)))) (sb_cons (s1_expr rfl (se_bm (m := .append) rfl (by kernel_rfl) (by kernel_rfl) (by kernel_rfl) (by kernel_rfl) (by decide) (se_var (i := 2) (by kernel_rfl)) (sa_cons (by kernel_rfl) (se_tup (sa_cons (by kernel_rfl) (se_tup (sa_cons (by kernel_rfl) (se_int) (sa_cons (by kernel_rfl) (se_var (i := 0) (by kernel_rfl)) (sa_nil)))) (sa_cons (by kernel_rfl) (se_tup (sa_cons (by kernel_rfl) (se_int) (sa_cons (by kernel_rfl) (se_bin (op := .add) (se_var (i := 0) (by kernel_rfl)) (se_lst (sa_cons (by kernel_rfl) (se_str) (sa_nil)))) (sa_nil)))) (sa_cons (by kernel_rfl) (se_int) (sa_cons (by kernel_rfl) (se_int) (sa_nil)))))) (sa_nil)))) (sb_cons (s1_expr rfl (se_bm (m := .append) rfl (by kernel_rfl) (by kernel_rfl) (by kernel_rfl) (by kernel_rfl) (by decide) (se_var (i := 2) (by kernel_rfl)) (sa_cons (by kernel_rfl) (se_tup (sa_cons (by kernel_rfl) (se_tup (sa_cons (by kernel_rfl) (se_int) (sa_cons (by kernel_rfl) (se_var (i := 0) (by kernel_rfl)) (sa_nil)))) (sa_cons (by kernel_rfl) (se_tup (sa_cons (by kernel_rfl) (se_int) (sa_cons (by kernel_rfl) (se_slc (se_var (i := 0) (by kernel_rfl)) (so_at (se_int)) (so_no)) (sa_nil)))) (sa_cons (by kernel_rfl) (se_int) (sa_cons (by kernel_rfl) (se_int) (sa_nil)))))) (sa_nil)))) (sb_cons (s1_expr rfl (se_bm (m := .append) rfl (by kernel_rfl) (by kernel_rfl) (by kernel_rfl) (by kernel_rfl) (by decide) (se_var (i := 2) (by kernel_rfl)) (sa_cons (by kernel_rfl) (se_tup (sa_cons (by kernel_rfl) (se_tup (sa_cons (by kernel_rfl) (se_int) (sa_cons (by kernel_rfl) (se_var (i := 0) (by kernel_rfl)) (sa_nil)))) (sa_cons (by kernel_rfl) (se_tup (sa_cons (by kernel_rfl) (se_int) (sa_cons (by kernel_rfl) (se_lst (sa_cons (by kernel_rfl) (se_str) (sa_cons (by kernel_rfl) (se_str) (sa_cons (by kernel_rfl) (se_str) (sa_nil))))) (sa_nil)))) (sa_cons (by kernel_rfl) (se_int) (sa_cons (by kernel_rfl) (se_int) (sa_nil)))))) (sa_nil)))) (sb_cons (s1_expr rfl (se_bm (m := .append) rfl (by kernel_rfl) (by kernel_rfl) (by kernel_rfl) (by kernel_rfl) (by decide) (se_var (i := 2) (by kernel_rfl)) (sa_cons (by kernel_rfl) (se_tup (sa_cons (by kernel_rfl) (se_tup (sa_cons (by kernel_rfl) (se_int) (sa_cons (by kernel_rfl) (se_var (i := 0) (by kernel_rfl)) (sa_nil)))) (sa_cons (by kernel_rfl) (se_tup (sa_cons (by kernel_rfl) (se_int) (sa_cons (by kernel_rfl) (se_lst (sa_cons (by kernel_rfl) (se_str) (sa_cons (by kernel_rfl) (se_str) (sa_cons (by kernel_rfl) (se_str) (sa_nil))))) (sa_nil)))) (sa_cons (by kernel_rfl) (se_int) (sa_cons (by kernel_rfl) (se_int) (sa_nil)))))) (sa_nil)))) (sb_cons (s1_expr rfl (se_bm (m := .append) rfl (by kernel_rfl) (by kernel_rfl) (by kernel_rfl) (by kernel_rfl) (by decide) (se_var (i := 2) (by kernel_rfl)) (sa_cons (by kernel_rfl) (se_tup (sa_cons (by kernel_rfl) (se_tup (sa_cons (by kernel_rfl) (se_int) (sa_cons (by kernel_rfl) (se_var (i := 0) (by kernel_rfl)) (sa_nil)))) (sa_cons (by kernel_rfl) (se_tup (sa_cons (by kernel_rfl) (se_int) (sa_cons (by kernel_rfl) (se_bin (op := .add) (se_var (i := 0) (by kernel_rfl)) (se_lst (sa_cons (by kernel_rfl) (se_str) (sa_nil)))) (sa_nil)))) (sa_cons (by kernel_rfl) (se_int) (sa_cons (by kernel_rfl) (se_int) (sa_nil)))))) (sa_nil)))) (sb_cons (s1_expr rfl (se_bm (m := .append) rfl (by kernel_rfl) (by kernel_rfl) (by kernel_rfl) (by kernel_rfl) (by decide) (se_var (i := 2) (by kernel_rfl)) (sa_cons (by kernel_rfl) (se_tup (sa_cons (by kernel_rfl) (se_tup (sa_cons (by kernel_rfl) (se_int) (sa_cons (by kernel_rfl) (se_var (i := 0) (by kernel_rfl)) (sa_nil)))) (sa_cons (by kernel_rfl) (se_tup (sa_cons (by kernel_rfl) (se_int) (sa_cons (by kernel_rfl) (se_bin (op := .add) (se_var (i := 0) (by kernel_rfl)) (se_lst (sa_cons (by kernel_rfl) (se_str) (sa_nil)))) (sa_nil)))) (sa_cons (by kernel_rfl) (se_int) (sa_cons (by kernel_rfl) (se_int) (sa_nil)))))) (sa_nil)))) (sb_cons (s1_expr rfl (se_bm (m := .append) rfl (by kernel_rfl) (by kernel_rfl) (by kernel_rfl) (by kernel_rfl) (by decide) (se_var (i := 2) (by kernel_rfl)) (sa_cons (by kernel_rfl) (se_tup (sa_cons (by kernel_rfl) (se_tup (sa_cons (by kernel_rfl) (se_int) (sa_cons (by kernel_rfl) (se_slc (se_var (i := 0) (by kernel_rfl)) (so_at (se_int)) (so_no)) (sa_nil)))) (sa_cons (by kernel_rfl) (se_tup (sa_cons (by kernel_rfl) (se_int) (sa_cons (by kernel_rfl) (se_bin (op := .add) (se_slc (se_var (i := 0) (by kernel_rfl)) (so_at (se_int)) (so_no)) (se_lst (sa_cons (by kernel_rfl) (se_str) (sa_nil)))) (sa_nil)))) (sa_cons (by kernel_rfl) (se_int) (sa_cons (by kernel_rfl) (se_int) (sa_nil)))))) (sa_nil)))) (sb_cons (s1_set (i := 3) (by kernel_rfl) rfl (se_lst (sa_cons (by kernel_rfl) (se_str) (sa_cons (by kernel_rfl) (se_str) (sa_cons (by kernel_rfl) (se_str) (sa_nil)))))) (sb_cons (s1_expr rfl (se_bm (m := .append) rfl (by kernel_rfl) (by kernel_rfl) (by kernel_rfl) (by kernel_rfl) (by decide) (se_var (i := 2) (by kernel_rfl)) (sa_cons (by kernel_rfl) (se_tup (sa_cons (by kernel_rfl) (se_tup (sa_cons (by kernel_rfl) (se_int) (sa_cons (by kernel_rfl) (se_var (i := 0) (by kernel_rfl)) (sa_nil)))) (sa_cons (by kernel_rfl) (se_tup (sa_cons (by kernel_rfl) (se_int) (sa_cons (by kernel_rfl) (se_var (i := 3) (by kernel_rfl)) (sa_nil)))) (sa_cons (by kernel_rfl) (se_int) (sa_cons (by kernel_rfl) (se_int) (sa_nil)))))) (sa_nil)))) (sb_cons (s1_ret (se_bin (op := .add) (se_var (i := 2) (by kernel_rfl)) (se_lst (sa_cons (by kernel_rfl) (se_tup (sa_cons (by kernel_rfl) (se_tup (sa_cons (by kernel_rfl) (se_int) (sa_cons (by kernel_rfl) (se_var (i := 0) (by kernel_rfl)) (sa_nil)))) (sa_cons (by kernel_rfl) (se_tup (sa_cons (by kernel_rfl) (se_int) (sa_cons (by kernel_rfl) (se_var (i := 3) (by kernel_rfl)) (sa_nil)))) (sa_cons (by kernel_rfl) (se_int) (sa_cons (by kernel_rfl) (se_int) (sa_nil)))))) (sa_cons (by kernel_rfl) (se_tup (sa_cons (by kernel_rfl) (se_tup (sa_cons (by kernel_rfl) (se_int) (sa_cons (by kernel_rfl) (se_var (i := 0) (by kernel_rfl)) (sa_nil)))) (sa_cons (by kernel_rfl) (se_tup (sa_cons (by kernel_rfl) (se_int) (sa_cons (by kernel_rfl) (se_bin (op := .add) (se_lst (sa_cons (by kernel_rfl) (se_str) (sa_nil))) (se_var (i := 0) (by kernel_rfl))) (sa_nil)))) (sa_cons (by kernel_rfl) (se_int) (sa_cons (by kernel_rfl) (se_int) (sa_nil)))))) (sa_nil)))))) (sb_nil))))))))))))))))
theorem sb_Row_read : SB tab A W ⟨n_Row_read, defScope s_Row_read, true⟩ (defBody s_Row_read) ir_Row_read := sb_cons (s1_unp (is := [2, 3, 4]) (sgs_cons (i := 2) (by kernel_rfl) (sgs_cons (i := 3) (by kernel_rfl) (sgs_cons (i := 4) (by kernel_rfl) (sgs_nil)))) rfl rfl (se_bm (m := .rpart) rfl (by kernel_rfl) (by kernel_rfl) (by kernel_rfl) (by kernel_rfl) (by decide) (se_var (i := 1) (by kernel_rfl)) (sa_cons (by kernel_rfl) (se_str) (sa_nil)))) (sb_cons (s1_if (st_cmp (op := .nin) (by kernel_rfl) (se_var (i := 4) (by kernel_rfl)) (se_tup (sa_cons (by kernel_rfl) (se_str) (sa_cons (by kernel_rfl) (se_str) (sa_nil))))) (sb_cons (s1_dead) (sb_nil)) (sb_nil)) (sb_cons (s1_unp (is := [5, 6, 7]) (sgs_cons (i := 5) (by kernel_rfl) (sgs_cons (i := 6) (by kernel_rfl) (sgs_cons (i := 7) (by kernel_rfl) (sgs_nil)))) rfl rfl (se_bm (m := .part) rfl (by kernel_rfl) (by kernel_rfl) (by kernel_rfl) (by kernel_rfl) (by decide) (se_var (i := 2) (by kernel_rfl)) (sa_cons (by kernel_rfl) (se_str) (sa_nil)))) (sb_cons (s1_unp (is := [8, 9, 10]) (sgs_cons (i := 8) (by kernel_rfl) (sgs_cons (i := 9) (by kernel_rfl) (sgs_cons (i := 10) (by kernel_rfl) (sgs_nil)))) rfl rfl (se_bm (m := .part) rfl (by kernel_rfl) (by kernel_rfl) (by kernel_rfl) (by kernel_rfl) (by decide) (se_var (i := 5) (by kernel_rfl)) (sa_cons (by kernel_rfl) (se_str) (sa_nil)))) (sb_cons (s1_try (sb_cons (s1_ret (se_makeL (n := 4) (tb := [(2, 11)]) (sh := false) (by kernel_rfl) ⟨(mb (by kernel_rfl)), (mb (by kernel_rfl)), ⟨dI_Row_init, (by kernel_rfl), rfl⟩, True.intro⟩ rfl (by kernel_rfl) (by kernel_rfl) (sa_cons (by kernel_rfl) (se_var (i := 8) (by kernel_rfl)) (sa_cons (by kernel_rfl) (se_ife (st_val (by kernel_rfl) (se_var (i := 9) (by kernel_rfl))) (se_bm (m := .split) rfl (by kernel_rfl) (by kernel_rfl) (by kernel_rfl) (by kernel_rfl) (by decide) (se_var (i := 10) (by kernel_rfl)) (sa_cons (by kernel_rfl) (se_str) (sa_nil))) (se_tup (sa_nil))) (sa_cons (by kernel_rfl) (se_ife (st_val (by kernel_rfl) (se_var (i := 6) (by kernel_rfl))) (se_bm (m := .split) rfl (by kernel_rfl) (by kernel_rfl) (by kernel_rfl) (by kernel_rfl) (by decide) (se_var (i := 7) (by kernel_rfl)) (sa_cons (by kernel_rfl) (se_str) (sa_nil))) (se_tup (sa_nil))) (sa_cons (by kernel_rfl) (se_cmp (op := .eq) (by kernel_rfl) (se_var (i := 4) (by kernel_rfl)) (se_str)) (sa_nil))))))) (sb_nil))) (sb_nil)))))
theorem sb_Tool_read : SB tab A W ⟨n_Tool_read, defScope s_Tool_read, true⟩ (defBody s_Tool_read) ir_Tool_read := sb_cons (s1_unpS (i := 2) (j := 3) (by kernel_rfl) (by kernel_rfl) rfl rfl (se_bm (m := .split) rfl (by kernel_rfl) (by kernel_rfl) (by kernel_rfl) (by kernel_rfl) (by decide) (se_var (i := 1) (by kernel_rfl)) (sa_cons (by kernel_rfl) (se_str) (sa_nil)))) (sb_cons (s1_unp (is := [4, 5, 6]) (sgs_cons (i := 4) (by kernel_rfl) (sgs_cons (i := 5) (by kernel_rfl) (sgs_cons (i := 6) (by kernel_rfl) (sgs_nil)))) rfl rfl (se_bm (m := .part) rfl (by kernel_rfl) (by kernel_rfl) (by kernel_rfl) (by kernel_rfl) (by decide) (se_var (i := 2) (by kernel_rfl)) (sa_cons (by kernel_rfl) (se_str) (sa_nil)))) (sb_cons (s1_set (i := 7) (by kernel_rfl) rfl (se_call (n := 1) (d := dI_short_number) (sh := false) (by kernel_rfl) (mb (by kernel_rfl)) (by kernel_rfl) (mb (by kernel_rfl)) rfl rfl (by kernel_rfl) (by kernel_rfl) (sa_cons (by kernel_rfl) (se_var (i := 6) (by kernel_rfl)) (sa_nil)))) (sb_cons (s1_if (st_w (sw_or (st_cmp (op := .ne) (by kernel_rfl) (se_var (i := 4) (by kernel_rfl)) (se_str)) (sw_one (st_not (st_val (by kernel_rfl) (se_call (n := 1) (d := dI_is_window) (sh := false) (by kernel_rfl) (mb (by kernel_rfl)) (by kernel_rfl) (mb (by kernel_rfl)) rfl rfl (by kernel_rfl) (by kernel_rfl) (sa_cons (by kernel_rfl) (se_var (i := 7) (by kernel_rfl)) (sa_nil)))))))) (sb_cons (s1_dead) (sb_nil)) (sb_nil)) (sb_cons (s1_ret (se_makeL (n := 2) (tb := [(3, 13)]) (sh := false) (by kernel_rfl) ⟨(mb (by kernel_rfl)), (mb (by kernel_rfl)), ⟨dI_Tool_init, (by kernel_rfl), rfl⟩, True.intro⟩ rfl (by kernel_rfl) (by kernel_rfl) (sa_cons (by kernel_rfl) (se_var (i := 7) (by kernel_rfl)) (sa_cons (by kernel_rfl) (se_lc (own := [("at", 8), ("line", 9)]) (vs := [8, 9]) (itg := .tp [8, 9]) (ob := false) (by kernel_rfl) rfl rfl (by kernel_rfl) (si_enS (c := 1) (by decide) (by kernel_rfl) (mb (by kernel_rfl)) (by kernel_rfl) (se_var (i := 3) (by kernel_rfl))) (sg_tp (sgs_cons (i := 8) (by kernel_rfl) (sgs_cons (i := 9) (by kernel_rfl) (sgs_nil)))) (sts_nil) (se_call (n := 2) (d := dI_read_line) (sh := false) (by kernel_rfl) (mb (by kernel_rfl)) (by kernel_rfl) (mb (by kernel_rfl)) rfl rfl (by kernel_rfl) (by kernel_rfl) (sa_cons (by kernel_rfl) (se_var (i := 9) (by kernel_rfl)) (sa_cons (by kernel_rfl) (se_var (i := 8) (by kernel_rfl)) (sa_nil))))) (sa_nil))))) (sb_nil)))))
theorem sb_parting : SB tab A W ⟨n_parting, defScope s_parting, true⟩ (defBody s_parting) ir_parting := sb_cons (s1_set (i := 3) (by kernel_rfl) rfl (se_call (n := 3) (d := dI_parting_events) (sh := false) (by kernel_rfl) (mb (by kernel_rfl)) (by kernel_rfl) (mb (by kernel_rfl)) rfl rfl (by kernel_rfl) (by kernel_rfl) (sa_cons (by kernel_rfl) (se_var (i := 0) (by kernel_rfl)) (sa_cons (by kernel_rfl) (se_var (i := 1) (by kernel_rfl)) (sa_cons (by kernel_rfl) (se_var (i := 2) (by kernel_rfl)) (sa_nil)))))) (sb_cons (s1_ret (se_ife (st_cmp (op := .isN) (by kernel_rfl) (se_var (i := 3) (by kernel_rfl)) (se_non)) (se_non) (se_make (n := 1) (d := dI_Story_init) (sh := false) (by kernel_rfl) (mb (by kernel_rfl)) (mb (by kernel_rfl)) (by kernel_rfl) (mb (by kernel_rfl)) rfl rfl (by kernel_rfl) (by kernel_rfl) (sa_cons (by kernel_rfl) (se_var (i := 3) (by kernel_rfl)) (sa_nil))))) (sb_nil))
theorem sb_alike : SB tab A W ⟨n_alike, defScope s_alike, true⟩ (defBody s_alike) ir_alike := sb_cons (s1_ret (se_cmp (op := .isN) (by kernel_rfl) (se_call (n := 3) (d := dI_parting_events) (sh := false) (by kernel_rfl) (mb (by kernel_rfl)) (by kernel_rfl) (mb (by kernel_rfl)) rfl rfl (by kernel_rfl) (by kernel_rfl) (sa_cons (by kernel_rfl) (se_var (i := 0) (by kernel_rfl)) (sa_cons (by kernel_rfl) (se_var (i := 1) (by kernel_rfl)) (sa_cons (by kernel_rfl) (se_var (i := 2) (by kernel_rfl)) (sa_nil))))) (se_non))) (sb_nil)
theorem sb__law_take : SB tab A W ⟨n__law_take, defScope s__law_take, true⟩ (defBody s__law_take) ir__law_take := sb_cons (s1_set (i := 2) (by kernel_rfl) rfl (se_dget (by kernel_rfl) (se_var (i := 0) (by kernel_rfl)) (se_str))) (sb_cons (s1_whl (st_w (sw_and (st_cmp (op := .ne) (by kernel_rfl) (se_var (i := 2) (by kernel_rfl)) (se_lst (sa_nil))) (sw_one (st_cmp (op := .eq) (by kernel_rfl) (se_ix (by kernel_rfl) (se_var (i := 2) (by kernel_rfl)) (se_neg (se_int))) (se_int))))) (sb_cons (s1_expr rfl (se_bm0 (m := .pop) rfl (by decide) (by kernel_rfl) (by kernel_rfl) (se_var (i := 2) (by kernel_rfl)))) (sb_nil))) (sb_cons (s1_if (st_cmp (op := .ne) (by kernel_rfl) (se_var (i := 2) (by kernel_rfl)) (se_lst (sa_nil))) (sb_cons (s1_set (i := 3) (by kernel_rfl) rfl (se_bm0 (m := .pop) rfl (by decide) (by kernel_rfl) (by kernel_rfl) (se_var (i := 2) (by kernel_rfl)))) (sb_cons (s1_expr rfl (se_bm (m := .append) rfl (by kernel_rfl) (by kernel_rfl) (by kernel_rfl) (by kernel_rfl) (by decide) (se_var (i := 2) (by kernel_rfl)) (sa_cons (by kernel_rfl) (se_bin (op := .fdiv) (se_var (i := 3) (by kernel_rfl)) (se_var (i := 1) (by kernel_rfl))) (sa_nil)))) (sb_cons (s1_ret (se_bin (op := .mod) (se_bi (f := .int) rfl (by kernel_rfl) (mb (by kernel_rfl)) (by kernel_rfl) (by kernel_rfl) (sa_cons (by kernel_rfl) (se_var (i := 3) (by kernel_rfl)) (sa_nil))) (se_var (i := 1) (by kernel_rfl)))) (sb_nil)))) (sb_nil)) (sb_cons (s1_dput rfl (se_bin (op := .mod) (se_bi (f := .int) rfl (by kernel_rfl) (mb (by kernel_rfl)) (by kernel_rfl) (by kernel_rfl) (sa_cons (by kernel_rfl) (se_bin (op := .add) (se_bin (op := .mul) (se_dget (by kernel_rfl) (se_var (i := 0) (by kernel_rfl)) (se_str)) (se_int)) (se_int)) (sa_nil))) (se_int)) (se_var (i := 0) (by kernel_rfl)) (se_str)) (sb_cons (s1_ret (se_bin (op := .mod) (se_bi (f := .int) rfl (by kernel_rfl) (mb (by kernel_rfl)) (by kernel_rfl) (by kernel_rfl) (sa_cons (by kernel_rfl) (se_bin (op := .fdiv) (se_dget (by kernel_rfl) (se_var (i := 0) (by kernel_rfl)) (se_str)) (se_int)) (sa_nil))) (se_var (i := 1) (by kernel_rfl)))) (sb_nil)))))
theorem sb_short_number : SB tab A W ⟨n_short_number, defScope s_short_number, true⟩ (defBody s_short_number) ir_short_number := sb_cons (s1_if (st_w (sw_or (st_cmp (op := .gt) (by kernel_rfl) (se_bi (f := .len) rfl (by kernel_rfl) (mb (by kernel_rfl)) (by kernel_rfl) (by kernel_rfl) (sa_cons (by kernel_rfl) (se_var (i := 0) (by kernel_rfl)) (sa_nil))) (se_int)) (sw_one (st_not (st_val (by kernel_rfl) (se_bm0 (m := .isdecimal) rfl (by decide) (by kernel_rfl) (by kernel_rfl) (se_var (i := 0) (by kernel_rfl)))))))) (sb_cons (s1_ret (se_non)) (sb_nil)) (sb_nil)) (sb_cons (s1_ret (se_ife (st_cmp (op := .eq) (by kernel_rfl) (se_bi (f := .str) rfl (by kernel_rfl) (mb (by kernel_rfl)) (by kernel_rfl) (by kernel_rfl) (sa_cons (by kernel_rfl) (se_bi (f := .int) rfl (by kernel_rfl) (mb (by kernel_rfl)) (by kernel_rfl) (by kernel_rfl) (sa_cons (by kernel_rfl) (se_var (i := 0) (by kernel_rfl)) (sa_nil))) (sa_nil))) (se_var (i := 0) (by kernel_rfl))) (se_bi (f := .int) rfl (by kernel_rfl) (mb (by kernel_rfl)) (by kernel_rfl) (by kernel_rfl) (sa_cons (by kernel_rfl) (se_var (i := 0) (by kernel_rfl)) (sa_nil))) (se_non))) (sb_nil))
theorem sb_Terms_init : SB tab A W ⟨n_Terms_init, defScope s_Terms_init, true⟩ (defBody s_Terms_init) ir_Terms_init := sb_cons (s1_if (st_w (sw_and (st_cmp (op := .notN) (by kernel_rfl) (se_var (i := 1) (by kernel_rfl)) (se_non)) (sw_one (st_not (st_val (by kernel_rfl) (se_call (n := 1) (d := dI_is_number) (sh := false) (by kernel_rfl) (mb (by kernel_rfl)) (by kernel_rfl) (mb (by kernel_rfl)) rfl rfl (by kernel_rfl) (by kernel_rfl) (sa_cons (by kernel_rfl) (se_var (i := 1) (by kernel_rfl)) (sa_nil)))))))) (sb_cons (s1_dead) (sb_nil)) (sb_nil)) (sb_cons (s1_if (st_not (st_val (by kernel_rfl) (se_isi (cs := [0, 1, 2, 3, 4, 5]) (by kernel_rfl) (mb (by kernel_rfl)) (by kernel_rfl) (by kernel_rfl) (by kernel_rfl) (by kernel_rfl) (ty_b (t := .bl) rfl rfl (by kernel_rfl) (mb (by kernel_rfl))) (se_var (i := 2) (by kernel_rfl))))) (sb_cons (s1_dead) (sb_nil)) (sb_nil)) (sb_cons (s1_if (st_not (st_val (by kernel_rfl) (se_isi (cs := [0, 1, 2, 3, 4, 5]) (by kernel_rfl) (mb (by kernel_rfl)) (by kernel_rfl) (by kernel_rfl) (by kernel_rfl) (by kernel_rfl) (ty_b (t := .bl) rfl rfl (by kernel_rfl) (mb (by kernel_rfl))) (se_var (i := 3) (by kernel_rfl))))) (sb_cons (s1_dead) (sb_nil)) (sb_nil)) (sb_cons (s1_fld (cs := [0, 5]) rfl (by kernel_rfl) (se_var (i := 1) (by kernel_rfl)) (se_var (i := 0) (by kernel_rfl))) (sb_cons (s1_fld (cs := [0]) rfl (by kernel_rfl) (se_var (i := 2) (by kernel_rfl)) (se_var (i := 0) (by kernel_rfl))) (sb_cons (s1_fld (cs := [0]) rfl (by kernel_rfl) (se_var (i := 3) (by kernel_rfl)) (se_var (i := 0) (by kernel_rfl))) (sb_nil))))))
theorem sb_Story_init : SB tab A W ⟨n_Story_init, defScope s_Story_init, true⟩ (defBody s_Story_init) ir_Story_init := sb_cons (s1_if (st_not (st_val (by kernel_rfl) (se_call (n := 1) (d := dI_is_sequence) (sh := false) (by kernel_rfl) (mb (by kernel_rfl)) (by kernel_rfl) (mb (by kernel_rfl)) rfl rfl (by kernel_rfl) (by kernel_rfl) (sa_cons (by kernel_rfl) (se_var (i := 1) (by kernel_rfl)) (sa_nil))))) (sb_cons (s1_dead) (sb_nil)) (sb_nil)) (sb_cons (s1_set (i := 2) (by kernel_rfl) rfl (se_call (n := 1) (d := dI_first_wrong) (sh := false) (by kernel_rfl) (mb (by kernel_rfl)) (by kernel_rfl) (mb (by kernel_rfl)) rfl rfl (by kernel_rfl) (by kernel_rfl) (sa_cons (by kernel_rfl) (se_var (i := 1) (by kernel_rfl)) (sa_nil)))) (sb_cons (s1_if (st_cmp (op := .notN) (by kernel_rfl) (se_var (i := 2) (by kernel_rfl)) (se_non)) (sb_cons (s1_dead) (sb_nil)) (sb_nil)) (sb_cons (s1_fld (cs := [1]) rfl (by kernel_rfl) (se_bi (f := .tuple) rfl (by kernel_rfl) (mb (by kernel_rfl)) (by kernel_rfl) (by kernel_rfl) (sa_cons (by kernel_rfl) (se_var (i := 1) (by kernel_rfl)) (sa_nil))) (se_var (i := 0) (by kernel_rfl))) (sb_cons (s1_fld (cs := [1]) rfl (by kernel_rfl) (se_call (n := 1) (d := dI_least_terms) (sh := false) (by kernel_rfl) (mb (by kernel_rfl)) (by kernel_rfl) (mb (by kernel_rfl)) rfl rfl (by kernel_rfl) (by kernel_rfl) (sa_cons (by kernel_rfl) (se_fld (cs := [1]) (by kernel_rfl) (by kernel_rfl) (se_var (i := 0) (by kernel_rfl))) (sa_nil))) (se_var (i := 0) (by kernel_rfl))) (sb_nil)))))
theorem sb_Row_init : SB tab A W ⟨n_Row_init, defScope s_Row_init, true⟩ (defBody s_Row_init) ir_Row_init := sb_cons (s1_if (st_not (st_val (by kernel_rfl) (se_call (n := 1) (d := dI_is_word) (sh := false) (by kernel_rfl) (mb (by kernel_rfl)) (by kernel_rfl) (mb (by kernel_rfl)) rfl rfl (by kernel_rfl) (by kernel_rfl) (sa_cons (by kernel_rfl) (se_var (i := 1) (by kernel_rfl)) (sa_nil))))) (sb_cons (s1_dead) (sb_nil)) (sb_nil)) (sb_cons (s1_if (st_not (st_val (by kernel_rfl) (se_call (n := 1) (d := dI_are_tests) (sh := false) (by kernel_rfl) (mb (by kernel_rfl)) (by kernel_rfl) (mb (by kernel_rfl)) rfl rfl (by kernel_rfl) (by kernel_rfl) (sa_cons (by kernel_rfl) (se_var (i := 2) (by kernel_rfl)) (sa_nil))))) (sb_cons (s1_dead) (sb_nil)) (sb_nil)) (sb_cons (s1_if (st_not (st_val (by kernel_rfl) (se_call (n := 2) (d := dI_are_deeds) (sh := false) (by kernel_rfl) (mb (by kernel_rfl)) (by kernel_rfl) (mb (by kernel_rfl)) rfl rfl (by kernel_rfl) (by kernel_rfl) (sa_cons (by kernel_rfl) (se_var (i := 3) (by kernel_rfl)) (sa_cons (by kernel_rfl) (se_var (i := 1) (by kernel_rfl)) (sa_nil)))))) (sb_cons (s1_dead) (sb_nil)) (sb_nil)) (sb_cons (s1_if (st_not (st_val (by kernel_rfl) (se_call (n := 2) (d := dI_is_opens) (sh := false) (by kernel_rfl) (mb (by kernel_rfl)) (by kernel_rfl) (mb (by kernel_rfl)) rfl rfl (by kernel_rfl) (by kernel_rfl) (sa_cons (by kernel_rfl) (se_var (i := 4) (by kernel_rfl)) (sa_cons (by kernel_rfl) (se_var (i := 1) (by kernel_rfl)) (sa_nil)))))) (sb_cons (s1_dead) (sb_nil)) (sb_nil)) (sb_cons (s1_fld (cs := [2]) rfl (by kernel_rfl) (se_var (i := 1) (by kernel_rfl)) (se_var (i := 0) (by kernel_rfl))) (sb_cons (s1_fld (cs := [2]) rfl (by kernel_rfl) (se_bi (f := .tuple) rfl (by kernel_rfl) (mb (by kernel_rfl)) (by kernel_rfl) (by kernel_rfl) (sa_cons (by kernel_rfl) (se_var (i := 2) (by kernel_rfl)) (sa_nil))) (se_var (i := 0) (by kernel_rfl))) (sb_cons (s1_fld (cs := [2]) rfl (by kernel_rfl) (se_bi (f := .tuple) rfl (by kernel_rfl) (mb (by kernel_rfl)) (by kernel_rfl) (by kernel_rfl) (sa_cons (by kernel_rfl) (se_var (i := 3) (by kernel_rfl)) (sa_nil))) (se_var (i := 0) (by kernel_rfl))) (sb_cons (s1_fld (cs := [2]) rfl (by kernel_rfl) (se_var (i := 4) (by kernel_rfl)) (se_var (i := 0) (by kernel_rfl))) (sb_nil))))))))
theorem sb_is_window : SB tab A W ⟨n_is_window, defScope s_is_window, true⟩ (defBody s_is_window) ir_is_window := sb_cons (s1_ret (se_and (se_call (n := 1) (d := dI_is_integer) (sh := false) (by kernel_rfl) (mb (by kernel_rfl)) (by kernel_rfl) (mb (by kernel_rfl)) rfl rfl (by kernel_rfl) (by kernel_rfl) (sa_cons (by kernel_rfl) (se_var (i := 0) (by kernel_rfl)) (sa_nil))) (se_one (se_cmp (op := .ge) (by kernel_rfl) (se_var (i := 0) (by kernel_rfl)) (se_int))))) (sb_nil)
theorem sb_Tool_init : SB tab A W ⟨n_Tool_init, defScope s_Tool_init, true⟩ (defBody s_Tool_init) ir_Tool_init := sb_cons (s1_if (st_not (st_val (by kernel_rfl) (se_call (n := 1) (d := dI_is_window) (sh := false) (by kernel_rfl) (mb (by kernel_rfl)) (by kernel_rfl) (mb (by kernel_rfl)) rfl rfl (by kernel_rfl) (by kernel_rfl) (sa_cons (by kernel_rfl) (se_var (i := 1) (by kernel_rfl)) (sa_nil))))) (sb_cons (s1_dead) (sb_nil)) (sb_nil)) (sb_cons (s1_if (st_not (st_val (by kernel_rfl) (se_call (n := 1) (d := dI_are_rows) (sh := false) (by kernel_rfl) (mb (by kernel_rfl)) (by kernel_rfl) (mb (by kernel_rfl)) rfl rfl (by kernel_rfl) (by kernel_rfl) (sa_cons (by kernel_rfl) (se_var (i := 2) (by kernel_rfl)) (sa_nil))))) (sb_cons (s1_dead) (sb_nil)) (sb_nil)) (sb_cons (s1_fld (cs := [3, 4]) rfl (by kernel_rfl) (se_var (i := 1) (by kernel_rfl)) (se_var (i := 0) (by kernel_rfl))) (sb_cons (s1_fld (cs := [3]) rfl (by kernel_rfl) (se_bi (f := .tuple) rfl (by kernel_rfl) (mb (by kernel_rfl)) (by kernel_rfl) (by kernel_rfl) (sa_cons (by kernel_rfl) (se_var (i := 2) (by kernel_rfl)) (sa_nil))) (se_var (i := 0) (by kernel_rfl))) (sb_cons (s1_fld (cs := [3]) rfl (by kernel_rfl) (se_bi (f := .tuple) rfl (by kernel_rfl) (mb (by kernel_rfl)) (by kernel_rfl) (by kernel_rfl) (sa_cons (by kernel_rfl) (se_bi (f := .sorted) rfl (by kernel_rfl) (mb (by kernel_rfl)) (by kernel_rfl) (by kernel_rfl) (sa_cons (by kernel_rfl) (se_sc2 (own := [("row", 3), ("name", 4)]) (vs := [3, 4]) (j0 := 3) (j1 := 4) (by kernel_rfl) rfl rfl rfl (by kernel_rfl) (by kernel_rfl) (by kernel_rfl) (by kernel_rfl) (se_fld (cs := [3]) (by kernel_rfl) (by kernel_rfl) (se_var (i := 0) (by kernel_rfl))) (se_call (n := 1) (d := dI_names_in) (sh := false) (by kernel_rfl) (mb (by kernel_rfl)) (by kernel_rfl) (mb (by kernel_rfl)) rfl rfl (by kernel_rfl) (by kernel_rfl) (sa_cons (by kernel_rfl) (se_var (i := 3) (by kernel_rfl)) (sa_nil))) (se_var (i := 4) (by kernel_rfl))) (sa_nil))) (sa_nil))) (se_var (i := 0) (by kernel_rfl))) (sb_nil)))))
theorem sb_read_line : SB tab A W ⟨n_read_line, defScope s_read_line, true⟩ (defBody s_read_line) ir_read_line := sb_cons (s1_try (sb_cons (s1_ret (se_cmeth (n := 1) (d := dI_Row_read) (sh := false) (mb (by kernel_rfl)) (by kernel_rfl) (mb (by kernel_rfl)) rfl rfl (by kernel_rfl) (by kernel_rfl) (by kernel_rfl) (by kernel_rfl) (by decide) (se_cls (c := 2) (by kernel_rfl) (mb (by kernel_rfl))) (sa_cons (by kernel_rfl) (se_var (i := 0) (by kernel_rfl)) (sa_nil)))) (sb_nil))) (sb_nil)
theorem sb_parting_events : SB tab A W ⟨n_parting_events, defScope s_parting_events, true⟩ (defBody s_parting_events) ir_parting_events := sb_cons (s1_set (i := 3) (by kernel_rfl) rfl (se_make (n := 3) (d := dI_Pair_init) (sh := false) (by kernel_rfl) (mb (by kernel_rfl)) (mb (by kernel_rfl)) (by kernel_rfl) (mb (by kernel_rfl)) rfl rfl (by kernel_rfl) (by kernel_rfl) (sa_cons (by kernel_rfl) (se_var (i := 0) (by kernel_rfl)) (sa_cons (by kernel_rfl) (se_var (i := 1) (by kernel_rfl)) (sa_cons (by kernel_rfl) (se_var (i := 2) (by kernel_rfl)) (sa_nil)))))) (sb_cons (s1_set (i := 4) (by kernel_rfl) rfl (se_lstO (sa_cons (by kernel_rfl) (se_kon (d := kd_START) (by kernel_rfl) (kon_mem (j := 1) (by kernel_rfl))) (sa_nil)))) (sb_cons (s1_set (i := 5) (by kernel_rfl) rfl (se_lstO (sa_cons (by kernel_rfl) (se_tup (sa_nil)) (sa_nil)))) (sb_cons (s1_set (i := 6) (by kernel_rfl) rfl (se_nsnew (by kernel_rfl) (mb (by kernel_rfl)))) (sb_cons (s1_set (i := 7) (by kernel_rfl) rfl (se_int)) (sb_cons (s1_whl (st_cmp (op := .lt) (by kernel_rfl) (se_var (i := 7) (by kernel_rfl)) (se_bi (f := .len) rfl (by kernel_rfl) (mb (by kernel_rfl)) (by kernel_rfl) (by kernel_rfl) (sa_cons (by kernel_rfl) (se_var (i := 4) (by kernel_rfl)) (sa_nil)))) (sb_cons (s1_set (i := 8) (by kernel_rfl) rfl (se_meth (n := 1) (m := [(5, 28)]) (sh := false) (mo_cons (mb (by kernel_rfl)) (mb (by kernel_rfl)) (mb (by kernel_rfl)) ⟨dI_Pair_steps, (by kernel_rfl), (by kernel_rfl)⟩ mo_nil) rfl (by kernel_rfl) (by kernel_rfl) (by kernel_rfl) (by kernel_rfl) (by decide) (se_var (i := 3) (by kernel_rfl)) (sa_cons (by kernel_rfl) (se_ix (by kernel_rfl) (se_var (i := 4) (by kernel_rfl)) (se_var (i := 7) (by kernel_rfl))) (sa_nil)))) (sb_cons (s1_for (itg := .tp [9, 10, 11]) (by kernel_rfl) (si_seq (se_var (i := 8) (by kernel_rfl))) (sg_tp (sgs_cons (i := 9) (by kernel_rfl) (sgs_cons (i := 10) (by kernel_rfl) (sgs_cons (i := 11) (by kernel_rfl) (sgs_nil))))) (sb_cons (s1_set (i := 12) (by kernel_rfl) rfl (se_tupS (se_ix (by kernel_rfl) (se_var (i := 5) (by kernel_rfl)) (se_var (i := 7) (by kernel_rfl))) (sa_cons (by kernel_rfl) (se_var (i := 9) (by kernel_rfl)) (sa_nil)))) (sb_cons (s1_if (st_not (st_val (by kernel_rfl) (se_var (i := 10) (by kernel_rfl)))) (sb_cons (s1_ret (se_var (i := 12) (by kernel_rfl))) (sb_nil)) (sb_nil)) (sb_cons (s1_set (i := 13) (by kernel_rfl) rfl (se_meth (n := 1) (m := [(5, 29)]) (sh := false) (mo_cons (mb (by kernel_rfl)) (mb (by kernel_rfl)) (mb (by kernel_rfl)) ⟨dI_Pair_standing, (by kernel_rfl), (by kernel_rfl)⟩ mo_nil) rfl (by kernel_rfl) (by kernel_rfl) (by kernel_rfl) (by kernel_rfl) (by decide) (se_var (i := 3) (by kernel_rfl)) (sa_cons (by kernel_rfl) (se_var (i := 11) (by kernel_rfl)) (sa_nil)))) (sb_cons (s1_if (st_nsnin (by kernel_rfl) (se_var (i := 13) (by kernel_rfl)) (se_var (i := 6) (by kernel_rfl))) (sb_cons (s1_expr rfl (se_nsadd (by kernel_rfl) (by kernel_rfl) (by kernel_rfl) (se_var (i := 6) (by kernel_rfl)) (se_var (i := 13) (by kernel_rfl)))) (sb_cons (s1_expr rfl (se_bm (m := .append) rfl (by kernel_rfl) (by kernel_rfl) (by kernel_rfl) (by kernel_rfl) (by decide) (se_var (i := 4) (by kernel_rfl)) (sa_cons (by kernel_rfl) (se_var (i := 11) (by kernel_rfl)) (sa_nil)))) (sb_cons (s1_expr rfl (se_bm (m := .append) rfl (by kernel_rfl) (by kernel_rfl) (by kernel_rfl) (by kernel_rfl) (by decide) (se_var (i := 5) (by kernel_rfl)) (sa_cons (by kernel_rfl) (se_var (i := 12) (by kernel_rfl)) (sa_nil)))) (sb_nil)))) (sb_nil)) (sb_nil)))))) (sb_cons (s1_aug (i := 7) (op := .add) rfl (by kernel_rfl) (se_int)) (sb_nil))))) (sb_cons (s1_ret (se_non)) (sb_nil)))))))
theorem sb_is_number : SB tab A W ⟨n_is_number, defScope s_is_number, true⟩ (defBody s_is_number) ir_is_number := sb_cons (s1_ret (se_and (se_call (n := 1) (d := dI_is_integer) (sh := false) (by kernel_rfl) (mb (by kernel_rfl)) (by kernel_rfl) (mb (by kernel_rfl)) rfl rfl (by kernel_rfl) (by kernel_rfl) (sa_cons (by kernel_rfl) (se_var (i := 0) (by kernel_rfl)) (sa_nil))) (se_one (se_cmp (op := .ge) (by kernel_rfl) (se_var (i := 0) (by kernel_rfl)) (se_int))))) (sb_nil)
theorem sb_is_sequence : SB tab A W ⟨n_is_sequence, defScope s_is_sequence, true⟩ (defBody s_is_sequence) ir_is_sequence := sb_cons (s1_ret (se_isi2 (cs := [0, 1, 2, 3, 4, 5]) (by kernel_rfl) (mb (by kernel_rfl)) (by kernel_rfl) (by kernel_rfl) (by kernel_rfl) (by kernel_rfl) (by kernel_rfl) (by kernel_rfl) (ty_b (t := .lst) rfl rfl (by kernel_rfl) (mb (by kernel_rfl))) (ty_b (t := .tup) rfl rfl (by kernel_rfl) (mb (by kernel_rfl))) (se_var (i := 0) (by kernel_rfl)))) (sb_nil)
theorem sb_first_wrong : SB tab A W ⟨n_first_wrong, defScope s_first_wrong, true⟩ (defBody s_first_wrong) ir_first_wrong := sb_cons (s1_set (i := 1) (by kernel_rfl) rfl (se_int)) (sb_cons (s1_for (itg := .tp [2, 3]) (by kernel_rfl) (si_en (by kernel_rfl) (mb (by kernel_rfl)) (by kernel_rfl) (se_var (i := 0) (by kernel_rfl))) (sg_tp (sgs_cons (i := 2) (by kernel_rfl) (sgs_cons (i := 3) (by kernel_rfl) (sgs_nil)))) (sb_cons (s1_if (st_not (st_val (by kernel_rfl) (se_call (n := 2) (d := dI_is_possible) (sh := false) (by kernel_rfl) (mb (by kernel_rfl)) (by kernel_rfl) (mb (by kernel_rfl)) rfl rfl (by kernel_rfl) (by kernel_rfl) (sa_cons (by kernel_rfl) (se_var (i := 3) (by kernel_rfl)) (sa_cons (by kernel_rfl) (se_var (i := 1) (by kernel_rfl)) (sa_nil)))))) (sb_cons (s1_ret (se_var (i := 2) (by kernel_rfl))) (sb_nil)) (sb_nil)) (sb_cons (s1_if (st_cmp (op := .eq) (by kernel_rfl) (se_var (i := 3) (by kernel_rfl)) (se_str)) (sb_cons (s1_aug (i := 1) (op := .add) rfl (by kernel_rfl) (se_int)) (sb_nil)) (sb_nil)) (sb_nil)))) (sb_cons (s1_ret (se_non)) (sb_nil)))
theorem sb_least_terms : SB tab A W ⟨n_least_terms, defScope s_least_terms, true⟩ (defBody s_least_terms) ir_least_terms := sb_cons (s1_set (i := 1) (by kernel_rfl) rfl (se_int)) (sb_cons (s1_set (i := 2) (by kernel_rfl) rfl (se_bl)) (sb_cons (s1_set (i := 3) (by kernel_rfl) rfl (se_int)) (sb_cons (s1_set (i := 4) (by kernel_rfl) rfl (se_int)) (sb_cons (s1_for (itg := .nm 5) (by kernel_rfl) (si_seq (se_var (i := 0) (by kernel_rfl))) (sg_nm (by kernel_rfl)) (sb_cons (s1_if (st_cmp (op := .eq) (by kernel_rfl) (se_var (i := 5) (by kernel_rfl)) (se_str)) (sb_cons (s1_set (i := 1) (by kernel_rfl) rfl (se_bi (f := .max) rfl (by kernel_rfl) (mb (by kernel_rfl)) (by kernel_rfl) (by kernel_rfl) (sa_cons (by kernel_rfl) (se_var (i := 1) (by kernel_rfl)) (sa_cons (by kernel_rfl) (se_bin (op := .sub) (se_var (i := 3) (by kernel_rfl)) (se_var (i := 4) (by kernel_rfl))) (sa_nil))))) (sb_cons (s1_aug (i := 3) (op := .add) rfl (by kernel_rfl) (se_int)) (sb_nil))) (sb_cons (s1_if (st_cmp (op := .ne) (by kernel_rfl) (se_var (i := 5) (by kernel_rfl)) (se_str)) (sb_cons (s1_set (i := 2) (by kernel_rfl) rfl (se_or (se_var (i := 2) (by kernel_rfl)) (se_one (se_cmp (op := .ne) (by kernel_rfl) (se_call (n := 1) (d := dI_card_in) (sh := false) (by kernel_rfl) (mb (by kernel_rfl)) (by kernel_rfl) (mb (by kernel_rfl)) rfl rfl (by kernel_rfl) (by kernel_rfl) (sa_cons (by kernel_rfl) (se_var (i := 5) (by kernel_rfl)) (sa_nil))) (se_var (i := 3) (by kernel_rfl)))))) (sb_cons (s1_set (i := 4) (by kernel_rfl) rfl (se_bi (f := .max) rfl (by kernel_rfl) (mb (by kernel_rfl)) (by kernel_rfl) (by kernel_rfl) (sa_cons (by kernel_rfl) (se_var (i := 4) (by kernel_rfl)) (sa_cons (by kernel_rfl) (se_call (n := 1) (d := dI_card_in) (sh := false) (by kernel_rfl) (mb (by kernel_rfl)) (by kernel_rfl) (mb (by kernel_rfl)) rfl rfl (by kernel_rfl) (by kernel_rfl) (sa_cons (by kernel_rfl) (se_var (i := 5) (by kernel_rfl)) (sa_nil))) (sa_nil))))) (sb_nil))) (sb_nil)) (sb_nil))) (sb_nil))) (sb_cons (s1_ret (se_make (n := 3) (d := dI_Terms_init) (sh := false) (by kernel_rfl) (mb (by kernel_rfl)) (mb (by kernel_rfl)) (by kernel_rfl) (mb (by kernel_rfl)) rfl rfl (by kernel_rfl) (by kernel_rfl) (sa_cons (by kernel_rfl) (se_var (i := 1) (by kernel_rfl)) (sa_cons (by kernel_rfl) (se_var (i := 2) (by kernel_rfl)) (sa_cons (by kernel_rfl) (se_cmp (op := .isin) (by kernel_rfl) (se_str) (se_var (i := 0) (by kernel_rfl))) (sa_nil)))))) (sb_nil))))))
theorem sb_is_word : SB tab A W ⟨n_is_word, defScope s_is_word, true⟩ (defBody s_is_word) ir_is_word := sb_cons (s1_ret (se_and (se_isi (cs := [0, 1, 2, 3, 4, 5]) (by kernel_rfl) (mb (by kernel_rfl)) (by kernel_rfl) (by kernel_rfl) (by kernel_rfl) (by kernel_rfl) (ty_b (t := .str) rfl rfl (by kernel_rfl) (mb (by kernel_rfl))) (se_var (i := 0) (by kernel_rfl))) (se_one (se_cmp (op := .isin) (by kernel_rfl) (se_var (i := 0) (by kernel_rfl)) (se_kon (d := kd_WORDS) (by kernel_rfl) (kon_mem (j := 2) (by kernel_rfl))))))) (sb_nil)
theorem sb_are_tests : SB tab A W ⟨n_are_tests, defScope s_are_tests, true⟩ (defBody s_are_tests) ir_are_tests := sb_cons (s1_ret (se_and (se_call (n := 1) (d := dI_is_sequence) (sh := false) (by kernel_rfl) (mb (by kernel_rfl)) (by kernel_rfl) (mb (by kernel_rfl)) rfl rfl (by kernel_rfl) (by kernel_rfl) (sa_cons (by kernel_rfl) (se_var (i := 0) (by kernel_rfl)) (sa_nil))) (se_one (se_bi (f := .all) rfl (by kernel_rfl) (mb (by kernel_rfl)) (by kernel_rfl) (by kernel_rfl) (sa_cons (by kernel_rfl) (se_lc (own := [("test", 1)]) (vs := [1]) (itg := .nm 1) (ob := false) (by kernel_rfl) rfl rfl (by kernel_rfl) (si_seq (se_var (i := 0) (by kernel_rfl))) (sg_nm (by kernel_rfl)) (sts_nil) (se_call (n := 1) (d := dI_is_test) (sh := false) (by kernel_rfl) (mb (by kernel_rfl)) (by kernel_rfl) (mb (by kernel_rfl)) rfl rfl (by kernel_rfl) (by kernel_rfl) (sa_cons (by kernel_rfl) (se_var (i := 1) (by kernel_rfl)) (sa_nil)))) (sa_nil)))))) (sb_nil)
theorem sb_are_deeds : SB tab A W ⟨n_are_deeds, defScope s_are_deeds, true⟩ (defBody s_are_deeds) ir_are_deeds := sb_cons (s1_if (st_w (sw_or (st_not (st_val (by kernel_rfl) (se_call (n := 1) (d := dI_is_sequence) (sh := false) (by kernel_rfl) (mb (by kernel_rfl)) (by kernel_rfl) (mb (by kernel_rfl)) rfl rfl (by kernel_rfl) (by kernel_rfl) (sa_cons (by kernel_rfl) (se_var (i := 0) (by kernel_rfl)) (sa_nil))))) (sw_one (st_not (st_val (by kernel_rfl) (se_bi (f := .all) rfl (by kernel_rfl) (mb (by kernel_rfl)) (by kernel_rfl) (by kernel_rfl) (sa_cons (by kernel_rfl) (se_lc (own := [("deed", 2)]) (vs := [2]) (itg := .nm 2) (ob := false) (by kernel_rfl) rfl rfl (by kernel_rfl) (si_seq (se_var (i := 0) (by kernel_rfl))) (sg_nm (by kernel_rfl)) (sts_nil) (se_call (n := 1) (d := dI_is_deed) (sh := false) (by kernel_rfl) (mb (by kernel_rfl)) (by kernel_rfl) (mb (by kernel_rfl)) rfl rfl (by kernel_rfl) (by kernel_rfl) (sa_cons (by kernel_rfl) (se_var (i := 2) (by kernel_rfl)) (sa_nil)))) (sa_nil)))))))) (sb_cons (s1_ret (se_bl)) (sb_nil)) (sb_nil)) (sb_cons (s1_ret (se_or (se_cmp (op := .eq) (by kernel_rfl) (se_bi (f := .len) rfl (by kernel_rfl) (mb (by kernel_rfl)) (by kernel_rfl) (by kernel_rfl) (sa_cons (by kernel_rfl) (se_var (i := 0) (by kernel_rfl)) (sa_nil))) (se_int)) (se_one (se_and (se_cmp (op := .isin) (by kernel_rfl) (se_var (i := 1) (by kernel_rfl)) (se_kon (d := kd_WORDS_WITH_DEEDS) (by kernel_rfl) (kon_mem (j := 3) (by kernel_rfl)))) (se_one (se_cmp (op := .isin) (by kernel_rfl) (se_str) (se_var (i := 0) (by kernel_rfl)))))))) (sb_nil))
theorem sb_is_opens : SB tab A W ⟨n_is_opens, defScope s_is_opens, true⟩ (defBody s_is_opens) ir_is_opens := sb_cons (s1_ret (se_and (se_isi (cs := [0, 1, 2, 3, 4, 5]) (by kernel_rfl) (mb (by kernel_rfl)) (by kernel_rfl) (by kernel_rfl) (by kernel_rfl) (by kernel_rfl) (ty_b (t := .bl) rfl rfl (by kernel_rfl) (mb (by kernel_rfl))) (se_var (i := 0) (by kernel_rfl))) (se_one (se_or (se_var (i := 0) (by kernel_rfl)) (se_one (se_cmp (op := .ne) (by kernel_rfl) (se_var (i := 1) (by kernel_rfl)) (se_str))))))) (sb_nil)
theorem sb_is_integer : SB tab A W ⟨n_is_integer, defScope s_is_integer, true⟩ (defBody s_is_integer) ir_is_integer := sb_cons (s1_ret (se_and (se_isi (cs := [0, 1, 2, 3, 4, 5]) (by kernel_rfl) (mb (by kernel_rfl)) (by kernel_rfl) (by kernel_rfl) (by kernel_rfl) (by kernel_rfl) (ty_b (t := .int) rfl rfl (by kernel_rfl) (mb (by kernel_rfl))) (se_var (i := 0) (by kernel_rfl))) (se_one (se_not (se_isi (cs := [0, 1, 2, 3, 4, 5]) (by kernel_rfl) (mb (by kernel_rfl)) (by kernel_rfl) (by kernel_rfl) (by kernel_rfl) (by kernel_rfl) (ty_b (t := .bl) rfl rfl (by kernel_rfl) (mb (by kernel_rfl))) (se_var (i := 0) (by kernel_rfl))))))) (sb_nil)
theorem sb_are_rows : SB tab A W ⟨n_are_rows, defScope s_are_rows, true⟩ (defBody s_are_rows) ir_are_rows := sb_cons (s1_ret (se_and (se_call (n := 1) (d := dI_is_sequence) (sh := false) (by kernel_rfl) (mb (by kernel_rfl)) (by kernel_rfl) (mb (by kernel_rfl)) rfl rfl (by kernel_rfl) (by kernel_rfl) (sa_cons (by kernel_rfl) (se_var (i := 0) (by kernel_rfl)) (sa_nil))) (se_one (se_bi (f := .all) rfl (by kernel_rfl) (mb (by kernel_rfl)) (by kernel_rfl) (by kernel_rfl) (sa_cons (by kernel_rfl) (se_lc (own := [("row", 1)]) (vs := [1]) (itg := .nm 1) (ob := false) (by kernel_rfl) rfl rfl (by kernel_rfl) (si_seq (se_var (i := 0) (by kernel_rfl))) (sg_nm (by kernel_rfl)) (sts_nil) (se_isi (cs := [0, 1, 2, 3, 4, 5]) (by kernel_rfl) (mb (by kernel_rfl)) (by kernel_rfl) (by kernel_rfl) (by kernel_rfl) (by kernel_rfl) (ty_c (c := 2) (by kernel_rfl) (mb (by kernel_rfl))) (se_var (i := 1) (by kernel_rfl)))) (sa_nil)))))) (sb_nil)
theorem sb_names_in : SB tab A W ⟨n_names_in, defScope s_names_in, true⟩ (defBody s_names_in) ir_names_in := sb_cons (s1_ret (se_lc (own := [("text", 1)]) (vs := [1]) (itg := .nm 1) (ob := false) (by kernel_rfl) rfl rfl (by kernel_rfl) (si_seq (se_bin (op := .add) (se_fld (cs := [2]) (by kernel_rfl) (by kernel_rfl) (se_var (i := 0) (by kernel_rfl))) (se_fld (cs := [2]) (by kernel_rfl) (by kernel_rfl) (se_var (i := 0) (by kernel_rfl))))) (sg_nm (by kernel_rfl)) (st_cmp (op := .ne) (by kernel_rfl) (se_var (i := 1) (by kernel_rfl)) (se_str)) (se_call (n := 1) (d := dI_name_in) (sh := false) (by kernel_rfl) (mb (by kernel_rfl)) (by kernel_rfl) (mb (by kernel_rfl)) rfl rfl (by kernel_rfl) (by kernel_rfl) (sa_cons (by kernel_rfl) (se_var (i := 1) (by kernel_rfl)) (sa_nil))))) (sb_nil)
theorem sb_Pair_init : SB tab A W ⟨n_Pair_init, defScope s_Pair_init, true⟩ (defBody s_Pair_init) ir_Pair_init := sb_cons (s1_fld (cs := [5]) rfl (by kernel_rfl) (se_tup (sa_cons (by kernel_rfl) (se_make (n := 1) (d := dI_Door_init) (sh := false) (by kernel_rfl) (mb (by kernel_rfl)) (mb (by kernel_rfl)) (by kernel_rfl) (mb (by kernel_rfl)) rfl rfl (by kernel_rfl) (by kernel_rfl) (sa_cons (by kernel_rfl) (se_var (i := 1) (by kernel_rfl)) (sa_nil))) (sa_cons (by kernel_rfl) (se_make (n := 1) (d := dI_Door_init) (sh := false) (by kernel_rfl) (mb (by kernel_rfl)) (mb (by kernel_rfl)) (by kernel_rfl) (mb (by kernel_rfl)) rfl rfl (by kernel_rfl) (by kernel_rfl) (sa_cons (by kernel_rfl) (se_var (i := 2) (by kernel_rfl)) (sa_nil))) (sa_nil)))) (se_var (i := 0) (by kernel_rfl))) (sb_cons (s1_fld (cs := [0, 5]) rfl (by kernel_rfl) (se_var (i := 3) (by kernel_rfl)) (se_var (i := 0) (by kernel_rfl))) (sb_nil))
theorem sb_Pair_steps : SB tab A W ⟨n_Pair_steps, defScope s_Pair_steps, true⟩ (defBody s_Pair_steps) ir_Pair_steps := sb_cons (s1_unp (is := [2, 3, 4]) (sgs_cons (i := 2) (by kernel_rfl) (sgs_cons (i := 3) (by kernel_rfl) (sgs_cons (i := 4) (by kernel_rfl) (sgs_nil)))) rfl rfl (se_var (i := 1) (by kernel_rfl))) (sb_cons (s1_set (i := 5) (by kernel_rfl) rfl (se_lstO (sa_nil))) (sb_cons (s1_if (st_w (sw_or (st_cmp (op := .isN) (by kernel_rfl) (se_fld (cs := [0, 5]) (by kernel_rfl) (by kernel_rfl) (se_var (i := 0) (by kernel_rfl))) (se_non)) (sw_one (st_cmp (op := .le) (by kernel_rfl) (se_bin (op := .sub) (se_var (i := 3) (by kernel_rfl)) (se_var (i := 4) (by kernel_rfl))) (se_fld (cs := [0, 5]) (by kernel_rfl) (by kernel_rfl) (se_var (i := 0) (by kernel_rfl))))))) (sb_cons (s1_expr rfl (se_bm (m := .append) rfl (by kernel_rfl) (by kernel_rfl) (by kernel_rfl) (by kernel_rfl) (by decide) (se_var (i := 5) (by kernel_rfl)) (sa_cons (by kernel_rfl) (se_tup (sa_cons (by kernel_rfl) (se_str) (sa_cons (by kernel_rfl) (se_bl) (sa_cons (by kernel_rfl) (se_tup (sa_cons (by kernel_rfl) (se_var (i := 2) (by kernel_rfl)) (sa_cons (by kernel_rfl) (se_bin (op := .add) (se_var (i := 3) (by kernel_rfl)) (se_int)) (sa_cons (by kernel_rfl) (se_var (i := 4) (by kernel_rfl)) (sa_nil))))) (sa_nil))))) (sa_nil)))) (sb_nil)) (sb_nil)) (sb_cons (s1_if (st_cmp (op := .gt) (by kernel_rfl) (se_var (i := 3) (by kernel_rfl)) (se_int)) (sb_cons (s1_expr rfl (se_bm (m := .append) rfl (by kernel_rfl) (by kernel_rfl) (by kernel_rfl) (by kernel_rfl) (by decide) (se_var (i := 5) (by kernel_rfl)) (sa_cons (by kernel_rfl) (se_tup (sa_cons (by kernel_rfl) (se_str) (sa_cons (by kernel_rfl) (se_bl) (sa_cons (by kernel_rfl) (se_tup (sa_cons (by kernel_rfl) (se_meth (n := 2) (m := [(5, 36)]) (sh := false) (mo_cons (mb (by kernel_rfl)) (mb (by kernel_rfl)) (mb (by kernel_rfl)) ⟨dI_Pair__behind_house, (by kernel_rfl), (by kernel_rfl)⟩ mo_nil) rfl (by kernel_rfl) (by kernel_rfl) (by kernel_rfl) (by kernel_rfl) (by decide) (se_var (i := 0) (by kernel_rfl)) (sa_cons (by kernel_rfl) (se_var (i := 2) (by kernel_rfl)) (sa_cons (by kernel_rfl) (se_var (i := 3) (by kernel_rfl)) (sa_nil)))) (sa_cons (by kernel_rfl) (se_var (i := 3) (by kernel_rfl)) (sa_cons (by kernel_rfl) (se_var (i := 4) (by kernel_rfl)) (sa_nil))))) (sa_nil))))) (sa_nil)))) (sb_cons (s1_unp (is := [6, 7]) (sgs_cons (i := 6) (by kernel_rfl) (sgs_cons (i := 7) (by kernel_rfl) (sgs_nil))) rfl rfl (se_meth (n := 2) (m := [(5, 37)]) (sh := false) (mo_cons (mb (by kernel_rfl)) (mb (by kernel_rfl)) (mb (by kernel_rfl)) ⟨dI_Pair__behind_try, (by kernel_rfl), (by kernel_rfl)⟩ mo_nil) rfl (by kernel_rfl) (by kernel_rfl) (by kernel_rfl) (by kernel_rfl) (by decide) (se_var (i := 0) (by kernel_rfl)) (sa_cons (by kernel_rfl) (se_var (i := 2) (by kernel_rfl)) (sa_cons (by kernel_rfl) (se_var (i := 3) (by kernel_rfl)) (sa_nil))))) (sb_cons (s1_expr rfl (se_bm (m := .append) rfl (by kernel_rfl) (by kernel_rfl) (by kernel_rfl) (by kernel_rfl) (by decide) (se_var (i := 5) (by kernel_rfl)) (sa_cons (by kernel_rfl) (se_tup (sa_cons (by kernel_rfl) (se_fstr (se_var (i := 3) (by kernel_rfl))) (sa_cons (by kernel_rfl) (se_var (i := 6) (by kernel_rfl)) (sa_cons (by kernel_rfl) (se_tup (sa_cons (by kernel_rfl) (se_var (i := 7) (by kernel_rfl)) (sa_cons (by kernel_rfl) (se_var (i := 3) (by kernel_rfl)) (sa_cons (by kernel_rfl) (se_var (i := 3) (by kernel_rfl)) (sa_nil))))) (sa_nil))))) (sa_nil)))) (sb_nil)))) (sb_nil)) (sb_cons (s1_ret (se_var (i := 5) (by kernel_rfl))) (sb_nil)))))
theorem sb_Pair_standing : SB tab A W ⟨n_Pair_standing, defScope s_Pair_standing, true⟩ (defBody s_Pair_standing) ir_Pair_standing := sb_cons (s1_unp (is := [2, 3, 4]) (sgs_cons (i := 2) (by kernel_rfl) (sgs_cons (i := 3) (by kernel_rfl) (sgs_cons (i := 4) (by kernel_rfl) (sgs_nil)))) rfl rfl (se_var (i := 1) (by kernel_rfl))) (sb_cons (s1_setLc (i := 5) (own := [("door", 7), ("number", 8), ("lot", 9)]) (vs := [7, 8, 9]) (itg := .nst 7 [8, 9]) (ob := false) (by kernel_rfl) (by kernel_rfl) rfl (by kernel_rfl) rfl rfl (by kernel_rfl) (si_zip (by kernel_rfl) (mb (by kernel_rfl)) (by kernel_rfl) (by kernel_rfl) (se_fld (cs := [5]) (by kernel_rfl) (by kernel_rfl) (se_var (i := 0) (by kernel_rfl))) (se_var (i := 2) (by kernel_rfl))) (sg_nst (by kernel_rfl) (sgs_cons (i := 8) (by kernel_rfl) (sgs_cons (i := 9) (by kernel_rfl) (sgs_nil)))) (sts_nil) (se_tup (sa_cons (by kernel_rfl) (se_bi (f := .min) rfl (by kernel_rfl) (mb (by kernel_rfl)) (by kernel_rfl) (by kernel_rfl) (sa_cons (by kernel_rfl) (se_bin (op := .sub) (se_var (i := 3) (by kernel_rfl)) (se_var (i := 8) (by kernel_rfl))) (sa_cons (by kernel_rfl) (se_bin (op := .add) (se_fld (cs := [3, 4]) (by kernel_rfl) (by kernel_rfl) (se_var (i := 7) (by kernel_rfl))) (se_int)) (sa_nil)))) (sa_cons (by kernel_rfl) (se_var (i := 9) (by kernel_rfl)) (sa_nil))))) (sb_cons (s1_set (i := 6) (by kernel_rfl) rfl (se_ife (st_cmp (op := .isN) (by kernel_rfl) (se_fld (cs := [0, 5]) (by kernel_rfl) (by kernel_rfl) (se_var (i := 0) (by kernel_rfl))) (se_non)) (se_int) (se_bi (f := .min) rfl (by kernel_rfl) (mb (by kernel_rfl)) (by kernel_rfl) (by kernel_rfl) (sa_cons (by kernel_rfl) (se_bin (op := .sub) (se_var (i := 3) (by kernel_rfl)) (se_var (i := 4) (by kernel_rfl))) (sa_cons (by kernel_rfl) (se_bin (op := .add) (se_fld (cs := [0, 5]) (by kernel_rfl) (by kernel_rfl) (se_var (i := 0) (by kernel_rfl))) (se_int)) (sa_nil)))))) (sb_cons (s1_ret (se_tup (sa_cons (by kernel_rfl) (se_bi (f := .tuple) rfl (by kernel_rfl) (mb (by kernel_rfl)) (by kernel_rfl) (by kernel_rfl) (sa_cons (by kernel_rfl) (se_var (i := 5) (by kernel_rfl)) (sa_nil))) (sa_cons (by kernel_rfl) (se_var (i := 6) (by kernel_rfl)) (sa_nil))))) (sb_nil))))
theorem sb_is_possible : SB tab A W ⟨n_is_possible, defScope s_is_possible, true⟩ (defBody s_is_possible) ir_is_possible := sb_cons (s1_if (st_not (st_val (by kernel_rfl) (se_isi (cs := [0, 1, 2, 3, 4, 5]) (by kernel_rfl) (mb (by kernel_rfl)) (by kernel_rfl) (by kernel_rfl) (by kernel_rfl) (by kernel_rfl) (ty_b (t := .str) rfl rfl (by kernel_rfl) (mb (by kernel_rfl))) (se_var (i := 0) (by kernel_rfl))))) (sb_cons (s1_ret (se_bl)) (sb_nil)) (sb_nil)) (sb_cons (s1_if (st_cmp (op := .isin) (by kernel_rfl) (se_var (i := 0) (by kernel_rfl)) (se_tup (sa_cons (by kernel_rfl) (se_str) (sa_cons (by kernel_rfl) (se_str) (sa_nil))))) (sb_cons (s1_ret (se_or (se_cmp (op := .eq) (by kernel_rfl) (se_var (i := 0) (by kernel_rfl)) (se_str)) (se_one (se_cmp (op := .gt) (by kernel_rfl) (se_var (i := 1) (by kernel_rfl)) (se_int))))) (sb_nil)) (sb_nil)) (sb_cons (s1_unp (is := [2, 3, 4]) (sgs_cons (i := 2) (by kernel_rfl) (sgs_cons (i := 3) (by kernel_rfl) (sgs_cons (i := 4) (by kernel_rfl) (sgs_nil)))) rfl rfl (se_bm (m := .part) rfl (by kernel_rfl) (by kernel_rfl) (by kernel_rfl) (by kernel_rfl) (by decide) (se_var (i := 0) (by kernel_rfl)) (sa_cons (by kernel_rfl) (se_str) (sa_nil)))) (sb_cons (s1_set (i := 5) (by kernel_rfl) rfl (se_call (n := 1) (d := dI_short_number) (sh := false) (by kernel_rfl) (mb (by kernel_rfl)) (by kernel_rfl) (mb (by kernel_rfl)) rfl rfl (by kernel_rfl) (by kernel_rfl) (sa_cons (by kernel_rfl) (se_var (i := 4) (by kernel_rfl)) (sa_nil)))) (sb_cons (s1_ret (se_and (se_cmp (op := .eq) (by kernel_rfl) (se_var (i := 2) (by kernel_rfl)) (se_str)) (se_and (se_cmp (op := .notN) (by kernel_rfl) (se_var (i := 5) (by kernel_rfl)) (se_non)) (se_one (se_cmp2 (o1 := .le) (o2 := .le) (by kernel_rfl) (se_int) (se_var (i := 5) (by kernel_rfl)) (se_var (i := 1) (by kernel_rfl))))))) (sb_nil)))))
theorem sb_card_in : SB tab A W ⟨n_card_in, defScope s_card_in, true⟩ (defBody s_card_in) ir_card_in := sb_cons (s1_ret (se_bi (f := .int) rfl (by kernel_rfl) (mb (by kernel_rfl)) (by kernel_rfl) (by kernel_rfl) (sa_cons (by kernel_rfl) (se_bm (m := .rmprefix) rfl (by kernel_rfl) (by kernel_rfl) (by kernel_rfl) (by kernel_rfl) (by decide) (se_var (i := 0) (by kernel_rfl)) (sa_cons (by kernel_rfl) (se_str) (sa_nil))) (sa_nil)))) (sb_nil)
theorem sb_is_test : SB tab A W ⟨n_is_test, defScope s_is_test, true⟩ (defBody s_is_test) ir_is_test := sb_cons (s1_ret (se_and (se_isi (cs := [0, 1, 2, 3, 4, 5]) (by kernel_rfl) (mb (by kernel_rfl)) (by kernel_rfl) (by kernel_rfl) (by kernel_rfl) (by kernel_rfl) (ty_b (t := .str) rfl rfl (by kernel_rfl) (mb (by kernel_rfl))) (se_var (i := 0) (by kernel_rfl))) (se_one (se_call (n := 2) (d := dI_is_lead_and_name) (sh := false) (by kernel_rfl) (mb (by kernel_rfl)) (by kernel_rfl) (mb (by kernel_rfl)) rfl rfl (by kernel_rfl) (by kernel_rfl) (sa_cons (by kernel_rfl) (se_var (i := 0) (by kernel_rfl)) (sa_cons (by kernel_rfl) (se_tup (sa_cons (by kernel_rfl) (se_str) (sa_cons (by kernel_rfl) (se_str) (sa_nil)))) (sa_nil))))))) (sb_nil)
theorem sb_is_deed : SB tab A W ⟨n_is_deed, defScope s_is_deed, true⟩ (defBody s_is_deed) ir_is_deed := sb_cons (s1_ret (se_and (se_isi (cs := [0, 1, 2, 3, 4, 5]) (by kernel_rfl) (mb (by kernel_rfl)) (by kernel_rfl) (by kernel_rfl) (by kernel_rfl) (by kernel_rfl) (ty_b (t := .str) rfl rfl (by kernel_rfl) (mb (by kernel_rfl))) (se_var (i := 0) (by kernel_rfl))) (se_one (se_or (se_cmp (op := .eq) (by kernel_rfl) (se_var (i := 0) (by kernel_rfl)) (se_str)) (se_one (se_call (n := 2) (d := dI_is_lead_and_name) (sh := false) (by kernel_rfl) (mb (by kernel_rfl)) (by kernel_rfl) (mb (by kernel_rfl)) rfl rfl (by kernel_rfl) (by kernel_rfl) (sa_cons (by kernel_rfl) (se_var (i := 0) (by kernel_rfl)) (sa_cons (by kernel_rfl) (se_tup (sa_cons (by kernel_rfl) (se_str) (sa_cons (by kernel_rfl) (se_str) (sa_nil)))) (sa_nil))))))))) (sb_nil)
theorem sb_name_in : SB tab A W ⟨n_name_in, defScope s_name_in, true⟩ (defBody s_name_in) ir_name_in := sb_cons (s1_ret (se_ix (by kernel_rfl) (se_bm (m := .rpart) rfl (by kernel_rfl) (by kernel_rfl) (by kernel_rfl) (by kernel_rfl) (by decide) (se_var (i := 0) (by kernel_rfl)) (sa_cons (by kernel_rfl) (se_str) (sa_nil))) (se_int))) (sb_nil)
theorem sb_Door_init : SB tab A W ⟨n_Door_init, defScope s_Door_init, true⟩ (defBody s_Door_init) ir_Door_init := sb_cons (s1_fld (cs := [3, 4]) rfl (by kernel_rfl) (se_fld (cs := [3, 4]) (by kernel_rfl) (by kernel_rfl) (se_var (i := 1) (by kernel_rfl))) (se_var (i := 0) (by kernel_rfl))) (sb_cons (s1_fld (cs := [4]) rfl (by kernel_rfl) (se_lstO (sa_cons (by kernel_rfl) (se_tup (sa_nil)) (sa_nil))) (se_var (i := 0) (by kernel_rfl))) (sb_cons (s1_fld (cs := [4]) rfl (by kernel_rfl) (se_lstO (sa_nil)) (se_var (i := 0) (by kernel_rfl))) (sb_cons (s1_fld (cs := [4]) rfl (by kernel_rfl) (se_lstO (sa_nil)) (se_var (i := 0) (by kernel_rfl))) (sb_cons (s1_setLc (i := 2) (own := [("card", 4)]) (vs := [4]) (itg := .nm 4) (ob := false) (by kernel_rfl) (by kernel_rfl) rfl (by kernel_rfl) rfl rfl (by kernel_rfl) (si_rng (by kernel_rfl) (mb (by kernel_rfl)) (by kernel_rfl) (se_bin (op := .add) (se_fld (cs := [3, 4]) (by kernel_rfl) (by kernel_rfl) (se_var (i := 1) (by kernel_rfl))) (se_int))) (sg_nm (by kernel_rfl)) (sts_nil) (se_call (n := 3) (d := dI_word_for) (sh := false) (by kernel_rfl) (mb (by kernel_rfl)) (by kernel_rfl) (mb (by kernel_rfl)) rfl rfl (by kernel_rfl) (by kernel_rfl) (sa_cons (by kernel_rfl) (se_fld (cs := [3, 4]) (by kernel_rfl) (by kernel_rfl) (se_var (i := 1) (by kernel_rfl))) (sa_cons (by kernel_rfl) (se_int) (sa_cons (by kernel_rfl) (se_var (i := 4) (by kernel_rfl)) (sa_nil)))))) (sb_cons (s1_whl (st_cmp (op := .lt) (by kernel_rfl) (se_bi (f := .len) rfl (by kernel_rfl) (mb (by kernel_rfl)) (by kernel_rfl) (by kernel_rfl) (sa_cons (by kernel_rfl) (se_fld (cs := [4]) (by kernel_rfl) (by kernel_rfl) (se_var (i := 0) (by kernel_rfl))) (sa_nil))) (se_bi (f := .len) rfl (by kernel_rfl) (mb (by kernel_rfl)) (by kernel_rfl) (by kernel_rfl) (sa_cons (by kernel_rfl) (se_fld (cs := [4]) (by kernel_rfl) (by kernel_rfl) (se_var (i := 0) (by kernel_rfl))) (sa_nil)))) (sb_cons (s1_set (i := 3) (by kernel_rfl) rfl (se_ix (by kernel_rfl) (se_fld (cs := [4]) (by kernel_rfl) (by kernel_rfl) (se_var (i := 0) (by kernel_rfl))) (se_bi (f := .len) rfl (by kernel_rfl) (mb (by kernel_rfl)) (by kernel_rfl) (by kernel_rfl) (sa_cons (by kernel_rfl) (se_fld (cs := [4]) (by kernel_rfl) (by kernel_rfl) (se_var (i := 0) (by kernel_rfl))) (sa_nil))))) (sb_cons (s1_expr rfl (se_bm (m := .append) rfl (by kernel_rfl) (by kernel_rfl) (by kernel_rfl) (by kernel_rfl) (by decide) (se_fld (cs := [4]) (by kernel_rfl) (by kernel_rfl) (se_var (i := 0) (by kernel_rfl))) (sa_cons (by kernel_rfl) (se_lc (own := [("word", 5)]) (vs := [5]) (itg := .nm 5) (ob := false) (by kernel_rfl) rfl rfl (by kernel_rfl) (si_seq (se_var (i := 2) (by kernel_rfl))) (sg_nm (by kernel_rfl)) (sts_nil) (se_meth (n := 1) (m := [(4, 40)]) (sh := true) (mo_cons (mb (by kernel_rfl)) (mb (by kernel_rfl)) (mb (by kernel_rfl)) ⟨dI_Door__at_lots, (by kernel_rfl), (by kernel_rfl)⟩ mo_nil) rfl (by kernel_rfl) (by kernel_rfl) (by kernel_rfl) (by kernel_rfl) (by decide) (se_var (i := 0) (by kernel_rfl)) (sa_cons (by kernel_rfl) (se_meth (n := 2) (m := [(3, 41)]) (sh := false) (mo_cons (mb (by kernel_rfl)) (mb (by kernel_rfl)) (mb (by kernel_rfl)) ⟨dI_Tool_deal, (by kernel_rfl), (by kernel_rfl)⟩ mo_nil) rfl (by kernel_rfl) (by kernel_rfl) (by kernel_rfl) (by kernel_rfl) (by decide) (se_var (i := 1) (by kernel_rfl)) (sa_cons (by kernel_rfl) (se_var (i := 5) (by kernel_rfl)) (sa_cons (by kernel_rfl) (se_var (i := 3) (by kernel_rfl)) (sa_nil)))) (sa_nil)))) (sa_nil)))) (sb_cons (s1_expr rfl (se_bm (m := .append) rfl (by kernel_rfl) (by kernel_rfl) (by kernel_rfl) (by kernel_rfl) (by decide) (se_fld (cs := [4]) (by kernel_rfl) (by kernel_rfl) (se_var (i := 0) (by kernel_rfl))) (sa_cons (by kernel_rfl) (se_meth (n := 1) (m := [(4, 40)]) (sh := true) (mo_cons (mb (by kernel_rfl)) (mb (by kernel_rfl)) (mb (by kernel_rfl)) ⟨dI_Door__at_lots, (by kernel_rfl), (by kernel_rfl)⟩ mo_nil) rfl (by kernel_rfl) (by kernel_rfl) (by kernel_rfl) (by kernel_rfl) (by decide) (se_var (i := 0) (by kernel_rfl)) (sa_cons (by kernel_rfl) (se_meth (n := 2) (m := [(3, 41)]) (sh := false) (mo_cons (mb (by kernel_rfl)) (mb (by kernel_rfl)) (mb (by kernel_rfl)) ⟨dI_Tool_deal, (by kernel_rfl), (by kernel_rfl)⟩ mo_nil) rfl (by kernel_rfl) (by kernel_rfl) (by kernel_rfl) (by kernel_rfl) (by decide) (se_var (i := 1) (by kernel_rfl)) (sa_cons (by kernel_rfl) (se_str) (sa_cons (by kernel_rfl) (se_var (i := 3) (by kernel_rfl)) (sa_nil)))) (sa_nil))) (sa_nil)))) (sb_nil))))) (sb_nil))))))
theorem sb_Pair__behind_house : SB tab A W ⟨n_Pair__behind_house, defScope s_Pair__behind_house, true⟩ (defBody s_Pair__behind_house) ir_Pair__behind_house := sb_cons (s1_setLc (i := 3) (own := [("door", 4), ("number", 5), ("lot", 6)]) (vs := [4, 5, 6]) (itg := .nst 4 [5, 6]) (ob := false) (by kernel_rfl) (by kernel_rfl) rfl (by kernel_rfl) rfl rfl (by kernel_rfl) (si_zip (by kernel_rfl) (mb (by kernel_rfl)) (by kernel_rfl) (by kernel_rfl) (se_fld (cs := [5]) (by kernel_rfl) (by kernel_rfl) (se_var (i := 0) (by kernel_rfl))) (se_var (i := 1) (by kernel_rfl))) (sg_nst (by kernel_rfl) (sgs_cons (i := 5) (by kernel_rfl) (sgs_cons (i := 6) (by kernel_rfl) (sgs_nil)))) (sts_nil) (se_meth (n := 3) (m := [(4, 42)]) (sh := false) (mo_cons (mb (by kernel_rfl)) (mb (by kernel_rfl)) (mb (by kernel_rfl)) ⟨dI_Door_behind_house, (by kernel_rfl), (by kernel_rfl)⟩ mo_nil) rfl (by kernel_rfl) (by kernel_rfl) (by kernel_rfl) (by kernel_rfl) (by decide) (se_var (i := 4) (by kernel_rfl)) (sa_cons (by kernel_rfl) (se_var (i := 5) (by kernel_rfl)) (sa_cons (by kernel_rfl) (se_var (i := 6) (by kernel_rfl)) (sa_cons (by kernel_rfl) (se_var (i := 2) (by kernel_rfl)) (sa_nil)))))) (sb_cons (s1_ret (se_bi (f := .tuple) rfl (by kernel_rfl) (mb (by kernel_rfl)) (by kernel_rfl) (by kernel_rfl) (sa_cons (by kernel_rfl) (se_lc (own := [("number", 5), ("lot", 6), ("_", 7)]) (vs := [5, 6, 7]) (itg := .tp [5, 6, 7]) (ob := false) (by kernel_rfl) rfl rfl (by kernel_rfl) (si_seq (se_var (i := 3) (by kernel_rfl))) (sg_tp (sgs_cons (i := 5) (by kernel_rfl) (sgs_cons (i := 6) (by kernel_rfl) (sgs_cons (i := 7) (by kernel_rfl) (sgs_nil))))) (sts_nil) (se_tup (sa_cons (by kernel_rfl) (se_var (i := 5) (by kernel_rfl)) (sa_cons (by kernel_rfl) (se_var (i := 6) (by kernel_rfl)) (sa_nil))))) (sa_nil)))) (sb_nil))
theorem sb_Pair__behind_try : SB tab A W ⟨n_Pair__behind_try, defScope s_Pair__behind_try, true⟩ (defBody s_Pair__behind_try) ir_Pair__behind_try := sb_cons (s1_setLc (i := 3) (own := [("door", 5), ("number", 6), ("lot", 7)]) (vs := [5, 6, 7]) (itg := .nst 5 [6, 7]) (ob := false) (by kernel_rfl) (by kernel_rfl) rfl (by kernel_rfl) rfl rfl (by kernel_rfl) (si_zip (by kernel_rfl) (mb (by kernel_rfl)) (by kernel_rfl) (by kernel_rfl) (se_fld (cs := [5]) (by kernel_rfl) (by kernel_rfl) (se_var (i := 0) (by kernel_rfl))) (se_var (i := 1) (by kernel_rfl))) (sg_nst (by kernel_rfl) (sgs_cons (i := 6) (by kernel_rfl) (sgs_cons (i := 7) (by kernel_rfl) (sgs_nil)))) (sts_nil) (se_meth (n := 3) (m := [(4, 43)]) (sh := false) (mo_cons (mb (by kernel_rfl)) (mb (by kernel_rfl)) (mb (by kernel_rfl)) ⟨dI_Door_behind_try, (by kernel_rfl), (by kernel_rfl)⟩ mo_nil) rfl (by kernel_rfl) (by kernel_rfl) (by kernel_rfl) (by kernel_rfl) (by decide) (se_var (i := 5) (by kernel_rfl)) (sa_cons (by kernel_rfl) (se_var (i := 6) (by kernel_rfl)) (sa_cons (by kernel_rfl) (se_var (i := 7) (by kernel_rfl)) (sa_cons (by kernel_rfl) (se_var (i := 2) (by kernel_rfl)) (sa_nil)))))) (sb_cons (s1_set (i := 4) (by kernel_rfl) rfl (se_cmp (op := .eq) (by kernel_rfl) (se_ix (by kernel_rfl) (se_ix (by kernel_rfl) (se_var (i := 3) (by kernel_rfl)) (se_int)) (se_int)) (se_ix (by kernel_rfl) (se_ix (by kernel_rfl) (se_var (i := 3) (by kernel_rfl)) (se_int)) (se_int)))) (sb_cons (s1_ret (se_tup (sa_cons (by kernel_rfl) (se_var (i := 4) (by kernel_rfl)) (sa_cons (by kernel_rfl) (se_bi (f := .tuple) rfl (by kernel_rfl) (mb (by kernel_rfl)) (by kernel_rfl) (by kernel_rfl) (sa_cons (by kernel_rfl) (se_lc (own := [("_", 8), ("number", 6), ("lot", 7)]) (vs := [8, 6, 7]) (itg := .tp [8, 6, 7, 8]) (ob := false) (by kernel_rfl) rfl rfl (by kernel_rfl) (si_seq (se_var (i := 3) (by kernel_rfl))) (sg_tp (sgs_cons (i := 8) (by kernel_rfl) (sgs_cons (i := 6) (by kernel_rfl) (sgs_cons (i := 7) (by kernel_rfl) (sgs_cons (i := 8) (by kernel_rfl) (sgs_nil)))))) (sts_nil) (se_tup (sa_cons (by kernel_rfl) (se_var (i := 6) (by kernel_rfl)) (sa_cons (by kernel_rfl) (se_var (i := 7) (by kernel_rfl)) (sa_nil))))) (sa_nil))) (sa_nil))))) (sb_nil)))
theorem sb_is_lead_and_name : SB tab A W ⟨n_is_lead_and_name, defScope s_is_lead_and_name, true⟩ (defBody s_is_lead_and_name) ir_is_lead_and_name := sb_cons (s1_unp (is := [2, 3, 4]) (sgs_cons (i := 2) (by kernel_rfl) (sgs_cons (i := 3) (by kernel_rfl) (sgs_cons (i := 4) (by kernel_rfl) (sgs_nil)))) rfl rfl (se_bm (m := .rpart) rfl (by kernel_rfl) (by kernel_rfl) (by kernel_rfl) (by kernel_rfl) (by decide) (se_var (i := 0) (by kernel_rfl)) (sa_cons (by kernel_rfl) (se_str) (sa_nil)))) (sb_cons (s1_ret (se_and (se_cmp (op := .isin) (by kernel_rfl) (se_var (i := 2) (by kernel_rfl)) (se_var (i := 1) (by kernel_rfl))) (se_one (se_call (n := 1) (d := dI_is_name) (sh := false) (by kernel_rfl) (mb (by kernel_rfl)) (by kernel_rfl) (mb (by kernel_rfl)) rfl rfl (by kernel_rfl) (by kernel_rfl) (sa_cons (by kernel_rfl) (se_var (i := 4) (by kernel_rfl)) (sa_nil)))))) (sb_nil))
theorem sb_word_for : SB tab A W ⟨n_word_for, defScope s_word_for, true⟩ (defBody s_word_for) ir_word_for := sb_cons (s1_set (i := 3) (by kernel_rfl) rfl (se_bin (op := .sub) (se_var (i := 2) (by kernel_rfl)) (se_var (i := 1) (by kernel_rfl)))) (sb_cons (s1_if (st_cmp (op := .eq) (by kernel_rfl) (se_var (i := 3) (by kernel_rfl)) (se_int)) (sb_cons (s1_ret (se_str)) (sb_nil)) (sb_nil)) (sb_cons (s1_if (st_cmp (op := .eq) (by kernel_rfl) (se_var (i := 3) (by kernel_rfl)) (se_int)) (sb_cons (s1_ret (se_str)) (sb_nil)) (sb_nil)) (sb_cons (s1_if (st_cmp (op := .gt) (by kernel_rfl) (se_var (i := 3) (by kernel_rfl)) (se_var (i := 0) (by kernel_rfl))) (sb_cons (s1_ret (se_str)) (sb_nil)) (sb_nil)) (sb_cons (s1_if (st_cmp (op := .gt) (by kernel_rfl) (se_var (i := 3) (by kernel_rfl)) (se_int)) (sb_cons (s1_ret (se_str)) (sb_nil)) (sb_nil)) (sb_cons (s1_ret (se_ife (st_cmp (op := .eq) (by kernel_rfl) (se_var (i := 3) (by kernel_rfl)) (se_neg (se_int))) (se_str) (se_str))) (sb_nil))))))
theorem sb_Door__at_lots : SB tab A W ⟨n_Door__at_lots, defScope s_Door__at_lots, true⟩ (defBody s_Door__at_lots) ir_Door__at_lots := sb_cons (s1_unp (is := [2, 3, 4, 5]) (sgs_cons (i := 2) (by kernel_rfl) (sgs_cons (i := 3) (by kernel_rfl) (sgs_cons (i := 4) (by kernel_rfl) (sgs_cons (i := 5) (by kernel_rfl) (sgs_nil))))) rfl rfl (se_var (i := 1) (by kernel_rfl))) (sb_cons (s1_if (st_cmp (op := .nin) (by kernel_rfl) (se_var (i := 4) (by kernel_rfl)) (se_fld (cs := [4]) (by kernel_rfl) (by kernel_rfl) (se_var (i := 0) (by kernel_rfl)))) (sb_cons (s1_expr rfl (se_bm (m := .append) rfl (by kernel_rfl) (by kernel_rfl) (by kernel_rfl) (by kernel_rfl) (by decide) (se_fld (cs := [4]) (by kernel_rfl) (by kernel_rfl) (se_var (i := 0) (by kernel_rfl))) (sa_cons (by kernel_rfl) (se_var (i := 4) (by kernel_rfl)) (sa_nil)))) (sb_nil)) (sb_nil)) (sb_cons (s1_ret (se_tup (sa_cons (by kernel_rfl) (se_var (i := 2) (by kernel_rfl)) (sa_cons (by kernel_rfl) (se_var (i := 3) (by kernel_rfl)) (sa_cons (by kernel_rfl) (se_bm (m := .index) rfl (by kernel_rfl) (by kernel_rfl) (by kernel_rfl) (by kernel_rfl) (by decide) (se_fld (cs := [4]) (by kernel_rfl) (by kernel_rfl) (se_var (i := 0) (by kernel_rfl))) (sa_cons (by kernel_rfl) (se_var (i := 4) (by kernel_rfl)) (sa_nil))) (sa_cons (by kernel_rfl) (se_var (i := 5) (by kernel_rfl)) (sa_nil))))))) (sb_nil)))
theorem sb_Tool_deal : SB tab A W ⟨n_Tool_deal, defScope s_Tool_deal, true⟩ (defBody s_Tool_deal) ir_Tool_deal := sb_cons (s1_for (itg := .tp [3, 4]) (by kernel_rfl) (si_en (by kernel_rfl) (mb (by kernel_rfl)) (by kernel_rfl) (se_fld (cs := [3]) (by kernel_rfl) (by kernel_rfl) (se_var (i := 0) (by kernel_rfl)))) (sg_tp (sgs_cons (i := 3) (by kernel_rfl) (sgs_cons (i := 4) (by kernel_rfl) (sgs_nil)))) (sb_cons (s1_if (st_val (by kernel_rfl) (se_call (n := 3) (d := dI_is_for) (sh := false) (by kernel_rfl) (mb (by kernel_rfl)) (by kernel_rfl) (mb (by kernel_rfl)) rfl rfl (by kernel_rfl) (by kernel_rfl) (sa_cons (by kernel_rfl) (se_var (i := 4) (by kernel_rfl)) (sa_cons (by kernel_rfl) (se_var (i := 1) (by kernel_rfl)) (sa_cons (by kernel_rfl) (se_var (i := 2) (by kernel_rfl)) (sa_nil)))))) (sb_cons (s1_ret (se_tup (sa_cons (by kernel_rfl) (se_fld (cs := [2]) (by kernel_rfl) (by kernel_rfl) (se_var (i := 4) (by kernel_rfl))) (sa_cons (by kernel_rfl) (se_cmp (op := .isin) (by kernel_rfl) (se_str) (se_fld (cs := [2]) (by kernel_rfl) (by kernel_rfl) (se_var (i := 4) (by kernel_rfl)))) (sa_cons (by kernel_rfl) (se_call (n := 2) (d := dI_marks_behind) (sh := false) (by kernel_rfl) (mb (by kernel_rfl)) (by kernel_rfl) (mb (by kernel_rfl)) rfl rfl (by kernel_rfl) (by kernel_rfl) (sa_cons (by kernel_rfl) (se_fld (cs := [2]) (by kernel_rfl) (by kernel_rfl) (se_var (i := 4) (by kernel_rfl))) (sa_cons (by kernel_rfl) (se_var (i := 2) (by kernel_rfl)) (sa_nil)))) (sa_cons (by kernel_rfl) (se_var (i := 3) (by kernel_rfl)) (sa_nil))))))) (sb_nil)) (sb_nil)) (sb_nil))) (sb_cons (s1_ret (se_tup (sa_cons (by kernel_rfl) (se_bl) (sa_cons (by kernel_rfl) (se_bl) (sa_cons (by kernel_rfl) (se_bi (f := .tuple) rfl (by kernel_rfl) (mb (by kernel_rfl)) (by kernel_rfl) (by kernel_rfl) (sa_cons (by kernel_rfl) (se_bi (f := .sorted) rfl (by kernel_rfl) (mb (by kernel_rfl)) (by kernel_rfl) (by kernel_rfl) (sa_cons (by kernel_rfl) (se_var (i := 2) (by kernel_rfl)) (sa_nil))) (sa_nil))) (sa_cons (by kernel_rfl) (se_non) (sa_nil))))))) (sb_nil))
theorem sb_Door_behind_house : SB tab A W ⟨n_Door_behind_house, defScope s_Door_behind_house, true⟩ (defBody s_Door_behind_house) ir_Door_behind_house := sb_cons (s1_if (st_cmp (op := .le) (by kernel_rfl) (se_var (i := 3) (by kernel_rfl)) (se_var (i := 1) (by kernel_rfl))) (sb_cons (s1_ret (se_tup (sa_cons (by kernel_rfl) (se_var (i := 1) (by kernel_rfl)) (sa_cons (by kernel_rfl) (se_var (i := 2) (by kernel_rfl)) (sa_cons (by kernel_rfl) (se_non) (sa_nil)))))) (sb_nil)) (sb_nil)) (sb_cons (s1_unp (is := [4, 5, 2, 6]) (sgs_cons (i := 4) (by kernel_rfl) (sgs_cons (i := 5) (by kernel_rfl) (sgs_cons (i := 2) (by kernel_rfl) (sgs_cons (i := 6) (by kernel_rfl) (sgs_nil))))) rfl rfl (se_ix (by kernel_rfl) (se_fld (cs := [4]) (by kernel_rfl) (by kernel_rfl) (se_var (i := 0) (by kernel_rfl))) (se_var (i := 2) (by kernel_rfl)))) (sb_cons (s1_ret (se_tup (sa_cons (by kernel_rfl) (se_ife (st_val (by kernel_rfl) (se_var (i := 5) (by kernel_rfl))) (se_var (i := 3) (by kernel_rfl)) (se_var (i := 1) (by kernel_rfl))) (sa_cons (by kernel_rfl) (se_var (i := 2) (by kernel_rfl)) (sa_cons (by kernel_rfl) (se_var (i := 6) (by kernel_rfl)) (sa_nil)))))) (sb_nil)))
theorem sb_Door_behind_try : SB tab A W ⟨n_Door_behind_try, defScope s_Door_behind_try, true⟩ (defBody s_Door_behind_try) ir_Door_behind_try := sb_cons (s1_unp (is := [4, 5, 2, 6]) (sgs_cons (i := 4) (by kernel_rfl) (sgs_cons (i := 5) (by kernel_rfl) (sgs_cons (i := 2) (by kernel_rfl) (sgs_cons (i := 6) (by kernel_rfl) (sgs_nil))))) rfl rfl (se_meth (n := 2) (m := [(4, 48)]) (sh := false) (mo_cons (mb (by kernel_rfl)) (mb (by kernel_rfl)) (mb (by kernel_rfl)) ⟨dI_Door_answer, (by kernel_rfl), (by kernel_rfl)⟩ mo_nil) rfl (by kernel_rfl) (by kernel_rfl) (by kernel_rfl) (by kernel_rfl) (by decide) (se_var (i := 0) (by kernel_rfl)) (sa_cons (by kernel_rfl) (se_var (i := 2) (by kernel_rfl)) (sa_cons (by kernel_rfl) (se_bin (op := .sub) (se_var (i := 3) (by kernel_rfl)) (se_var (i := 1) (by kernel_rfl))) (sa_nil))))) (sb_cons (s1_ret (se_tup (sa_cons (by kernel_rfl) (se_var (i := 4) (by kernel_rfl)) (sa_cons (by kernel_rfl) (se_ife (st_val (by kernel_rfl) (se_var (i := 5) (by kernel_rfl))) (se_var (i := 3) (by kernel_rfl)) (se_var (i := 1) (by kernel_rfl))) (sa_cons (by kernel_rfl) (se_var (i := 2) (by kernel_rfl)) (sa_cons (by kernel_rfl) (se_var (i := 6) (by kernel_rfl)) (sa_nil))))))) (sb_nil))
theorem sb_is_name : SB tab A W ⟨n_is_name, defScope s_is_name, true⟩ (defBody s_is_name) ir_is_name := sb_cons (s1_if (st_w (sw_or (st_not (st_val (by kernel_rfl) (se_isi (cs := [0, 1, 2, 3, 4, 5]) (by kernel_rfl) (mb (by kernel_rfl)) (by kernel_rfl) (by kernel_rfl) (by kernel_rfl) (by kernel_rfl) (ty_b (t := .str) rfl rfl (by kernel_rfl) (mb (by kernel_rfl))) (se_var (i := 0) (by kernel_rfl))))) (sw_one (st_not (st_cmp2 (o1 := .le) (o2 := .le) (by kernel_rfl) (se_int) (se_bi (f := .len) rfl (by kernel_rfl) (mb (by kernel_rfl)) (by kernel_rfl) (by kernel_rfl) (sa_cons (by kernel_rfl) (se_var (i := 0) (by kernel_rfl)) (sa_nil))) (se_int)))))) (sb_cons (s1_ret (se_bl)) (sb_nil)) (sb_nil)) (sb_cons (s1_ret (se_and (se_bm0 (m := .isascii) rfl (by decide) (by kernel_rfl) (by kernel_rfl) (se_var (i := 0) (by kernel_rfl))) (se_and (se_bm0 (m := .isalpha) rfl (by decide) (by kernel_rfl) (by kernel_rfl) (se_var (i := 0) (by kernel_rfl))) (se_and (se_bm0 (m := .islower) rfl (by decide) (by kernel_rfl) (by kernel_rfl) (se_var (i := 0) (by kernel_rfl))) (se_one (se_cmp (op := .nin) (by kernel_rfl) (se_var (i := 0) (by kernel_rfl)) (se_kon (d := kd_NOT_NAMES) (by kernel_rfl) (kon_mem (j := 0) (by kernel_rfl))))))))) (sb_nil))
theorem sb_is_for : SB tab A W ⟨n_is_for, defScope s_is_for, true⟩ (defBody s_is_for) ir_is_for := sb_cons (s1_ret (se_and (se_cmp (op := .eq) (by kernel_rfl) (se_fld (cs := [2]) (by kernel_rfl) (by kernel_rfl) (se_var (i := 0) (by kernel_rfl))) (se_var (i := 1) (by kernel_rfl))) (se_one (se_bi (f := .all) rfl (by kernel_rfl) (mb (by kernel_rfl)) (by kernel_rfl) (by kernel_rfl) (sa_cons (by kernel_rfl) (se_lc (own := [("test", 3)]) (vs := [3]) (itg := .nm 3) (ob := false) (by kernel_rfl) rfl rfl (by kernel_rfl) (si_seq (se_fld (cs := [2]) (by kernel_rfl) (by kernel_rfl) (se_var (i := 0) (by kernel_rfl)))) (sg_nm (by kernel_rfl)) (sts_nil) (se_call (n := 2) (d := dI_is_fulfilled) (sh := false) (by kernel_rfl) (mb (by kernel_rfl)) (by kernel_rfl) (mb (by kernel_rfl)) rfl rfl (by kernel_rfl) (by kernel_rfl) (sa_cons (by kernel_rfl) (se_var (i := 3) (by kernel_rfl)) (sa_cons (by kernel_rfl) (se_var (i := 2) (by kernel_rfl)) (sa_nil))))) (sa_nil)))))) (sb_nil)
theorem sb_marks_behind : SB tab A W ⟨n_marks_behind, defScope s_marks_behind, true⟩ (defBody s_marks_behind) ir_marks_behind := sb_cons (s1_set (i := 2) (by kernel_rfl) rfl (se_bi (f := .set) rfl (by kernel_rfl) (mb (by kernel_rfl)) (by kernel_rfl) (by kernel_rfl) (sa_cons (by kernel_rfl) (se_var (i := 1) (by kernel_rfl)) (sa_nil)))) (sb_cons (s1_for (itg := .nm 3) (by kernel_rfl) (si_seq (se_var (i := 0) (by kernel_rfl))) (sg_nm (by kernel_rfl)) (sb_cons (s1_if (st_val (by kernel_rfl) (se_bm (m := .starts) rfl (by kernel_rfl) (by kernel_rfl) (by kernel_rfl) (by kernel_rfl) (by decide) (se_var (i := 3) (by kernel_rfl)) (sa_cons (by kernel_rfl) (se_str) (sa_nil)))) (sb_cons (s1_expr rfl (se_bm (m := .add) rfl (by kernel_rfl) (by kernel_rfl) (by kernel_rfl) (by kernel_rfl) (by decide) (se_var (i := 2) (by kernel_rfl)) (sa_cons (by kernel_rfl) (se_call (n := 1) (d := dI_name_in) (sh := false) (by kernel_rfl) (mb (by kernel_rfl)) (by kernel_rfl) (mb (by kernel_rfl)) rfl rfl (by kernel_rfl) (by kernel_rfl) (sa_cons (by kernel_rfl) (se_var (i := 3) (by kernel_rfl)) (sa_nil))) (sa_nil)))) (sb_nil)) (sb_nil)) (sb_cons (s1_if (st_val (by kernel_rfl) (se_bm (m := .starts) rfl (by kernel_rfl) (by kernel_rfl) (by kernel_rfl) (by kernel_rfl) (by decide) (se_var (i := 3) (by kernel_rfl)) (sa_cons (by kernel_rfl) (se_str) (sa_nil)))) (sb_cons (s1_expr rfl (se_bm (m := .discard) rfl (by kernel_rfl) (by kernel_rfl) (by kernel_rfl) (by kernel_rfl) (by decide) (se_var (i := 2) (by kernel_rfl)) (sa_cons (by kernel_rfl) (se_call (n := 1) (d := dI_name_in) (sh := false) (by kernel_rfl) (mb (by kernel_rfl)) (by kernel_rfl) (mb (by kernel_rfl)) rfl rfl (by kernel_rfl) (by kernel_rfl) (sa_cons (by kernel_rfl) (se_var (i := 3) (by kernel_rfl)) (sa_nil))) (sa_nil)))) (sb_nil)) (sb_nil)) (sb_nil)))) (sb_cons (s1_ret (se_bi (f := .tuple) rfl (by kernel_rfl) (mb (by kernel_rfl)) (by kernel_rfl) (by kernel_rfl) (sa_cons (by kernel_rfl) (se_bi (f := .sorted) rfl (by kernel_rfl) (mb (by kernel_rfl)) (by kernel_rfl) (by kernel_rfl) (sa_cons (by kernel_rfl) (se_var (i := 2) (by kernel_rfl)) (sa_nil))) (sa_nil)))) (sb_nil)))
theorem sb_Tool_answer : SB tab A W ⟨n_Tool_answer, defScope s_Tool_answer, true⟩ (defBody s_Tool_answer) ir_Tool_answer := sb_cons (s1_unp (is := [4, 5, 6, 7]) (sgs_cons (i := 4) (by kernel_rfl) (sgs_cons (i := 5) (by kernel_rfl) (sgs_cons (i := 6) (by kernel_rfl) (sgs_cons (i := 7) (by kernel_rfl) (sgs_nil))))) rfl rfl (se_meth (n := 2) (m := [(3, 41)]) (sh := false) (mo_cons (mb (by kernel_rfl)) (mb (by kernel_rfl)) (mb (by kernel_rfl)) ⟨dI_Tool_deal, (by kernel_rfl), (by kernel_rfl)⟩ mo_nil) rfl (by kernel_rfl) (by kernel_rfl) (by kernel_rfl) (by kernel_rfl) (by decide) (se_var (i := 0) (by kernel_rfl)) (sa_cons (by kernel_rfl) (se_call (n := 3) (d := dI_word_for) (sh := false) (by kernel_rfl) (mb (by kernel_rfl)) (by kernel_rfl) (mb (by kernel_rfl)) rfl rfl (by kernel_rfl) (by kernel_rfl) (sa_cons (by kernel_rfl) (se_fld (cs := [3, 4]) (by kernel_rfl) (by kernel_rfl) (se_var (i := 0) (by kernel_rfl))) (sa_cons (by kernel_rfl) (se_var (i := 1) (by kernel_rfl)) (sa_cons (by kernel_rfl) (se_var (i := 3) (by kernel_rfl)) (sa_nil))))) (sa_cons (by kernel_rfl) (se_var (i := 2) (by kernel_rfl)) (sa_nil))))) (sb_cons (s1_ret (se_tup (sa_cons (by kernel_rfl) (se_var (i := 4) (by kernel_rfl)) (sa_cons (by kernel_rfl) (se_ife (st_val (by kernel_rfl) (se_var (i := 5) (by kernel_rfl))) (se_var (i := 3) (by kernel_rfl)) (se_var (i := 1) (by kernel_rfl))) (sa_cons (by kernel_rfl) (se_var (i := 6) (by kernel_rfl)) (sa_cons (by kernel_rfl) (se_var (i := 7) (by kernel_rfl)) (sa_nil))))))) (sb_nil))
theorem sb_Door_answer : SB tab A W ⟨n_Door_answer, defScope s_Door_answer, true⟩ (defBody s_Door_answer) ir_Door_answer := sb_cons (s1_ret (se_ix (by kernel_rfl) (se_ix (by kernel_rfl) (se_fld (cs := [4]) (by kernel_rfl) (by kernel_rfl) (se_var (i := 0) (by kernel_rfl))) (se_var (i := 1) (by kernel_rfl))) (se_bin (op := .sub) (se_bi (f := .max) rfl (by kernel_rfl) (mb (by kernel_rfl)) (by kernel_rfl) (by kernel_rfl) (sa_cons (by kernel_rfl) (se_konI (i := -2) (by kernel_rfl) (mb (by kernel_rfl))) (sa_cons (by kernel_rfl) (se_bi (f := .min) rfl (by kernel_rfl) (mb (by kernel_rfl)) (by kernel_rfl) (by kernel_rfl) (sa_cons (by kernel_rfl) (se_var (i := 2) (by kernel_rfl)) (sa_cons (by kernel_rfl) (se_bin (op := .add) (se_fld (cs := [3, 4]) (by kernel_rfl) (by kernel_rfl) (se_var (i := 0) (by kernel_rfl))) (se_int)) (sa_nil)))) (sa_nil)))) (se_konI (i := -2) (by kernel_rfl) (mb (by kernel_rfl)))))) (sb_nil)
theorem sb_is_fulfilled : SB tab A W ⟨n_is_fulfilled, defScope s_is_fulfilled, true⟩ (defBody s_is_fulfilled) ir_is_fulfilled := sb_cons (s1_ret (se_cmp (op := .ne) (by kernel_rfl) (se_cmp (op := .isin) (by kernel_rfl) (se_call (n := 1) (d := dI_name_in) (sh := false) (by kernel_rfl) (mb (by kernel_rfl)) (by kernel_rfl) (mb (by kernel_rfl)) rfl rfl (by kernel_rfl) (by kernel_rfl) (sa_cons (by kernel_rfl) (se_var (i := 0) (by kernel_rfl)) (sa_nil))) (se_var (i := 1) (by kernel_rfl))) (se_bm (m := .starts) rfl (by kernel_rfl) (by kernel_rfl) (by kernel_rfl) (by kernel_rfl) (by decide) (se_var (i := 0) (by kernel_rfl)) (sa_cons (by kernel_rfl) (se_str) (sa_nil))))) (sb_nil)
theorem sb_Story_len : SB tab A W ⟨n_Story_len, defScope s_Story_len, true⟩ (defBody s_Story_len) ir_Story_len := sb_cons (s1_ret (se_bi (f := .len) rfl (by kernel_rfl) (mb (by kernel_rfl)) (by kernel_rfl) (by kernel_rfl) (sa_cons (by kernel_rfl) (se_fld (cs := [1]) (by kernel_rfl) (by kernel_rfl) (se_var (i := 0) (by kernel_rfl))) (sa_nil)))) (sb_nil)
theorem sb_law : SB tab A W ⟨n_law, defScope s_law, true⟩ (defBody s_law) ir_law := sb_cons (s1_for (itg := .nm 1) (by kernel_rfl) (si_rng (by kernel_rfl) (mb (by kernel_rfl)) (by kernel_rfl) (se_bi (f := .max) rfl (by kernel_rfl) (mb (by kernel_rfl)) (by kernel_rfl) (by kernel_rfl) (sa_cons (by kernel_rfl) (se_int) (sa_cons (by kernel_rfl) (se_bi (f := .min) rfl (by kernel_rfl) (mb (by kernel_rfl)) (by kernel_rfl) (by kernel_rfl) (sa_cons (by kernel_rfl) (se_int) (sa_cons (by kernel_rfl) (se_bi (f := .len) rfl (by kernel_rfl) (mb (by kernel_rfl)) (by kernel_rfl) (by kernel_rfl) (sa_cons (by kernel_rfl) (se_var (i := 0) (by kernel_rfl)) (sa_nil))) (sa_nil)))) (sa_nil))))) (sg_nm (by kernel_rfl)) (sb_cons (s1_set (i := 2) (by kernel_rfl) (by kernel_rfl) (by with_reducible exact (se_call (n := 2) (d := dI__law_feed) (sh := true) (by kernel_rfl) (mb (by kernel_rfl)) (by kernel_rfl) (mb (by kernel_rfl)) (by kernel_rfl) (by kernel_rfl) (by kernel_rfl) (by kernel_rfl) (sa_cons (by kernel_rfl) (se_var (i := 0) (by kernel_rfl)) (sa_cons (by kernel_rfl) (se_var (i := 1) (by kernel_rfl)) (sa_nil)))))) (sb_cons (s1_for (itg := .tp [3, 4, 5, 6]) (by kernel_rfl) (si_seq (se_call (n := 2) (d := dI__law_mixed) (sh := true) (by kernel_rfl) (mb (by kernel_rfl)) (by kernel_rfl) (mb (by kernel_rfl)) rfl rfl (by kernel_rfl) (by kernel_rfl) (sa_cons (by kernel_rfl) (se_var (i := 2) (by kernel_rfl)) (sa_cons (by kernel_rfl) (se_call0 (d := dI__law_known) (sh := true) (by kernel_rfl) (mb (by kernel_rfl)) (by kernel_rfl) (mb (by kernel_rfl)) rfl) (sa_nil))))) (sg_tp (sgs_cons (i := 3) (by kernel_rfl) (sgs_cons (i := 4) (by kernel_rfl) (sgs_cons (i := 5) (by kernel_rfl) (sgs_cons (i := 6) (by kernel_rfl) (sgs_nil)))))) (sb_cons (s1_unp (is := [7, 8]) (sgs_cons (i := 7) (by kernel_rfl) (sgs_cons (i := 8) (by kernel_rfl) (sgs_nil))) rfl rfl (se_lc (own := [("_law_side", 11)]) (vs := [11]) (itg := .nm 11) (ob := false) (by kernel_rfl) rfl rfl (by kernel_rfl) (si_seq (se_tup (sa_cons (by kernel_rfl) (se_var (i := 3) (by kernel_rfl)) (sa_cons (by kernel_rfl) (se_var (i := 4) (by kernel_rfl)) (sa_nil))))) (sg_nm (by kernel_rfl)) (sts_nil) (se_cmeth (n := 1) (d := dI_Tool_read) (sh := false) (mb (by kernel_rfl)) (by kernel_rfl) (mb (by kernel_rfl)) rfl rfl (by kernel_rfl) (by kernel_rfl) (by kernel_rfl) (by kernel_rfl) (by decide) (se_cls (c := 3) (by kernel_rfl) (mb (by kernel_rfl))) (sa_cons (by kernel_rfl) (se_bm (m := .join) rfl (by kernel_rfl) (by kernel_rfl) (by kernel_rfl) (by kernel_rfl) (by decide) (se_str) (sa_cons (by kernel_rfl) (se_bin (op := .add) (se_lst (sa_cons (by kernel_rfl) (se_bin (op := .add) (se_str) (se_bi (f := .str) rfl (by kernel_rfl) (mb (by kernel_rfl)) (by kernel_rfl) (by kernel_rfl) (sa_cons (by kernel_rfl) (se_ix (by kernel_rfl) (se_var (i := 11) (by kernel_rfl)) (se_int)) (sa_nil)))) (sa_nil))) (se_bi (f := .listT) rfl (by kernel_rfl) (mb (by kernel_rfl)) (by kernel_rfl) (by kernel_rfl) (sa_cons (by kernel_rfl) (se_ix (by kernel_rfl) (se_var (i := 11) (by kernel_rfl)) (se_int)) (sa_nil)))) (sa_nil))) (sa_nil))))) (sb_cons (s1_par (i := 9) (j := 10) (by kernel_rfl) (by kernel_rfl) (by kernel_rfl) (by kernel_rfl) (by kernel_rfl) rfl (by kernel_rfl) (by kernel_rfl) (by with_reducible exact (se_call (n := 3) (d := dI_parting) (sh := false) (by kernel_rfl) (mb (by kernel_rfl)) (by kernel_rfl) (mb (by kernel_rfl)) (by kernel_rfl) (by kernel_rfl) (by kernel_rfl) (by kernel_rfl) (sa_cons (by kernel_rfl) (se_var (i := 7) (by kernel_rfl)) (sa_cons (by kernel_rfl) (se_var (i := 8) (by kernel_rfl)) (sa_cons (by kernel_rfl) (se_var (i := 5) (by kernel_rfl)) (sa_nil)))))) (by with_reducible exact (se_call (n := 3) (d := dI_parting) (sh := false) (by kernel_rfl) (mb (by kernel_rfl)) (by kernel_rfl) (mb (by kernel_rfl)) (by kernel_rfl) (by kernel_rfl) (by kernel_rfl) (by kernel_rfl) (sa_cons (by kernel_rfl) (se_var (i := 8) (by kernel_rfl)) (sa_cons (by kernel_rfl) (se_var (i := 7) (by kernel_rfl)) (sa_cons (by kernel_rfl) (se_var (i := 5) (by kernel_rfl)) (sa_nil))))))) (sb_cons (s1_if (by with_reducible exact (st_cmpE (op := .ne) (by kernel_rfl) (by kernel_rfl) (se_bi (f := .repr) (by kernel_rfl) (by kernel_rfl) (mb (by kernel_rfl)) (by kernel_rfl) (by kernel_rfl) (sa_cons (by kernel_rfl) (se_call (n := 3) (d := dI_alike) (sh := false) (by kernel_rfl) (mb (by kernel_rfl)) (by kernel_rfl) (mb (by kernel_rfl)) (by kernel_rfl) (by kernel_rfl) (by kernel_rfl) (by kernel_rfl) (sa_cons (by kernel_rfl) (se_var (i := 7) (by kernel_rfl)) (sa_cons (by kernel_rfl) (se_var (i := 8) (by kernel_rfl)) (sa_cons (by kernel_rfl) (se_var (i := 5) (by kernel_rfl)) (sa_nil))))) (sa_nil))) (se_bi (f := .repr) (by kernel_rfl) (by kernel_rfl) (mb (by kernel_rfl)) (by kernel_rfl) (by kernel_rfl) (sa_cons (by kernel_rfl) (se_cmpE (op := .eq) (by kernel_rfl) (by kernel_rfl) (se_var (i := 6) (by kernel_rfl)) (se_int)) (sa_nil))))) (sb_cons (s1_ret (by with_reducible exact (se_bl))) (sb_nil)) (sb_nil)) (sb_cons (s1_if (by with_reducible exact (st_w (sw_or (st_cmpE (op := .ne) (by kernel_rfl) (by kernel_rfl) (se_cmpE (op := .isN) (by kernel_rfl) (by kernel_rfl) (se_var (i := 9) (by kernel_rfl)) (se_non)) (se_cmpE (op := .eq) (by kernel_rfl) (by kernel_rfl) (se_var (i := 6) (by kernel_rfl)) (se_int))) (sw_one (st_cmpE (op := .ne) (by kernel_rfl) (by kernel_rfl) (se_cmpE (op := .isN) (by kernel_rfl) (by kernel_rfl) (se_var (i := 10) (by kernel_rfl)) (se_non)) (se_cmpE (op := .eq) (by kernel_rfl) (by kernel_rfl) (se_var (i := 6) (by kernel_rfl)) (se_int))))))) (sb_cons (s1_ret (by with_reducible exact (se_bl))) (sb_nil)) (sb_nil)) (sb_cons (s1_if (by with_reducible exact (st_w (sw_and (st_cmpE (op := .gt) (by kernel_rfl) (by kernel_rfl) (se_var (i := 6) (by kernel_rfl)) (se_int)) (sw_one (st_w (sw_or (st_cmpE (op := .ne) (by kernel_rfl) (by kernel_rfl) (se_lenm (m := [(1, 50)]) (sh := false) (oo_cons (mb (by kernel_rfl)) (mb (by kernel_rfl)) (mb (by kernel_rfl)) ⟨dI_Story_len, (by kernel_rfl), (by kernel_rfl)⟩ oo_nil) (by kernel_rfl) (mb (by kernel_rfl)) (by kernel_rfl) (se_var (i := 9) (by kernel_rfl))) (se_var (i := 6) (by kernel_rfl))) (sw_one (st_cmpE (op := .ne) (by kernel_rfl) (by kernel_rfl) (se_lenm (m := [(1, 50)]) (sh := false) (oo_cons (mb (by kernel_rfl)) (mb (by kernel_rfl)) (mb (by kernel_rfl)) ⟨dI_Story_len, (by kernel_rfl), (by kernel_rfl)⟩ oo_nil) (by kernel_rfl) (mb (by kernel_rfl)) (by kernel_rfl) (se_var (i := 10) (by kernel_rfl))) (se_var (i := 6) (by kernel_rfl)))))))))) (sb_cons (s1_ret (by with_reducible exact (se_bl))) (sb_nil)) (sb_nil)) (sb_nil))))))) (sb_cons (s1_par (i := 7) (j := 8) (by kernel_rfl) (by kernel_rfl) (by kernel_rfl) (by kernel_rfl) (by kernel_rfl) rfl (by kernel_rfl) (by kernel_rfl) (by with_reducible exact (se_cmeth (n := 1) (d := dI_Tool_read) (sh := false) (mb (by kernel_rfl)) (by kernel_rfl) (mb (by kernel_rfl)) (by kernel_rfl) (by kernel_rfl) (by kernel_rfl) (by kernel_rfl) (by kernel_rfl) (by kernel_rfl) (by decide) (se_cls (c := 3) (by kernel_rfl) (mb (by kernel_rfl))) (sa_cons (by kernel_rfl) (se_str) (sa_nil)))) (by with_reducible exact (se_cmeth (n := 1) (d := dI_Tool_read) (sh := false) (mb (by kernel_rfl)) (by kernel_rfl) (mb (by kernel_rfl)) (by kernel_rfl) (by kernel_rfl) (by kernel_rfl) (by kernel_rfl) (by kernel_rfl) (by kernel_rfl) (by decide) (se_cls (c := 3) (by kernel_rfl) (mb (by kernel_rfl))) (sa_cons (by kernel_rfl) (se_str) (sa_nil))))) (sb_cons (s1_if (by with_reducible exact (st_w (sw_or (st_cmpE (op := .ne) (by kernel_rfl) (by kernel_rfl) (se_fld (cs := [1]) (by kernel_rfl) (by kernel_rfl) (se_call (n := 3) (d := dI_parting) (sh := false) (by kernel_rfl) (mb (by kernel_rfl)) (by kernel_rfl) (mb (by kernel_rfl)) (by kernel_rfl) (by kernel_rfl) (by kernel_rfl) (by kernel_rfl) (sa_cons (by kernel_rfl) (se_var (i := 7) (by kernel_rfl)) (sa_cons (by kernel_rfl) (se_var (i := 8) (by kernel_rfl)) (sa_cons (by kernel_rfl) (se_non) (sa_nil)))))) (se_binE (op := .add) (by kernel_rfl) (se_binE (op := .mul) (by kernel_rfl) (se_tup (sa_cons (by kernel_rfl) (se_str) (sa_nil))) (se_int)) (se_tup (sa_cons (by kernel_rfl) (se_str) (sa_nil))))) (sw_one (st_val (by kernel_rfl) (se_call (n := 3) (d := dI_alike) (sh := false) (by kernel_rfl) (mb (by kernel_rfl)) (by kernel_rfl) (mb (by kernel_rfl)) (by kernel_rfl) (by kernel_rfl) (by kernel_rfl) (by kernel_rfl) (sa_cons (by kernel_rfl) (se_var (i := 7) (by kernel_rfl)) (sa_cons (by kernel_rfl) (se_var (i := 8) (by kernel_rfl)) (sa_cons (by kernel_rfl) (se_int) (sa_nil)))))))))) (sb_cons (s1_ret (by with_reducible exact (se_bl))) (sb_nil)) (sb_nil)) (sb_nil)))))) (sb_cons (s1_ret (by with_reducible exact (se_bl))) (sb_nil))
theorem ok_all : ∀ (i : Nat) (d : DefI), tab.defs[i]? = some d → DefOk tab A W d := fun i d h => by
  match i, h with
  | 0, h => cases (show some dI__law_feed = some d from h); exact ⟨⟨rfl, rfl, rfl, by decide +kernel, rfl, by decide +kernel, by decide +kernel⟩, sb__law_feed⟩
  | 1, h => cases (show some dI__law_mixed = some d from h); exact ⟨⟨rfl, rfl, rfl, by decide +kernel, rfl, by decide +kernel, by decide +kernel⟩, sb__law_mixed⟩
  | 2, h => cases (show some dI__law_known = some d from h); exact ⟨⟨rfl, rfl, rfl, by decide +kernel, rfl, by decide +kernel, by decide +kernel⟩, sb__law_known⟩
  | 3, h => cases (show some dI_Row_read = some d from h); exact ⟨⟨rfl, rfl, rfl, by decide +kernel, rfl, by decide +kernel, by decide +kernel⟩, sb_Row_read⟩
  | 4, h => cases (show some dI_Tool_read = some d from h); exact ⟨⟨rfl, rfl, rfl, by decide +kernel, rfl, by decide +kernel, by decide +kernel⟩, sb_Tool_read⟩
  | 5, h => cases (show some dI_parting = some d from h); exact ⟨⟨rfl, rfl, rfl, by decide +kernel, rfl, by decide +kernel, by decide +kernel⟩, sb_parting⟩
  | 6, h => cases (show some dI_alike = some d from h); exact ⟨⟨rfl, rfl, rfl, by decide +kernel, rfl, by decide +kernel, by decide +kernel⟩, sb_alike⟩
  | 7, h => cases (show some dI__law_take = some d from h); exact ⟨⟨rfl, rfl, rfl, by decide +kernel, rfl, by decide +kernel, by decide +kernel⟩, sb__law_take⟩
  | 8, h => cases (show some dI_short_number = some d from h); exact ⟨⟨rfl, rfl, rfl, by decide +kernel, rfl, by decide +kernel, by decide +kernel⟩, sb_short_number⟩
  | 9, h => cases (show some dI_Terms_init = some d from h); exact ⟨⟨rfl, rfl, rfl, by decide +kernel, rfl, by decide +kernel, by decide +kernel⟩, sb_Terms_init⟩
  | 10, h => cases (show some dI_Story_init = some d from h); exact ⟨⟨rfl, rfl, rfl, by decide +kernel, rfl, by decide +kernel, by decide +kernel⟩, sb_Story_init⟩
  | 11, h => cases (show some dI_Row_init = some d from h); exact ⟨⟨rfl, rfl, rfl, by decide +kernel, rfl, by decide +kernel, by decide +kernel⟩, sb_Row_init⟩
  | 12, h => cases (show some dI_is_window = some d from h); exact ⟨⟨rfl, rfl, rfl, by decide +kernel, rfl, by decide +kernel, by decide +kernel⟩, sb_is_window⟩
  | 13, h => cases (show some dI_Tool_init = some d from h); exact ⟨⟨rfl, rfl, rfl, by decide +kernel, rfl, by decide +kernel, by decide +kernel⟩, sb_Tool_init⟩
  | 14, h => cases (show some dI_read_line = some d from h); exact ⟨⟨rfl, rfl, rfl, by decide +kernel, rfl, by decide +kernel, by decide +kernel⟩, sb_read_line⟩
  | 15, h => cases (show some dI_parting_events = some d from h); exact ⟨⟨rfl, rfl, rfl, by decide +kernel, rfl, by decide +kernel, by decide +kernel⟩, sb_parting_events⟩
  | 16, h => cases (show some dI_is_number = some d from h); exact ⟨⟨rfl, rfl, rfl, by decide +kernel, rfl, by decide +kernel, by decide +kernel⟩, sb_is_number⟩
  | 17, h => cases (show some dI_is_sequence = some d from h); exact ⟨⟨rfl, rfl, rfl, by decide +kernel, rfl, by decide +kernel, by decide +kernel⟩, sb_is_sequence⟩
  | 18, h => cases (show some dI_first_wrong = some d from h); exact ⟨⟨rfl, rfl, rfl, by decide +kernel, rfl, by decide +kernel, by decide +kernel⟩, sb_first_wrong⟩
  | 19, h => cases (show some dI_least_terms = some d from h); exact ⟨⟨rfl, rfl, rfl, by decide +kernel, rfl, by decide +kernel, by decide +kernel⟩, sb_least_terms⟩
  | 20, h => cases (show some dI_is_word = some d from h); exact ⟨⟨rfl, rfl, rfl, by decide +kernel, rfl, by decide +kernel, by decide +kernel⟩, sb_is_word⟩
  | 21, h => cases (show some dI_are_tests = some d from h); exact ⟨⟨rfl, rfl, rfl, by decide +kernel, rfl, by decide +kernel, by decide +kernel⟩, sb_are_tests⟩
  | 22, h => cases (show some dI_are_deeds = some d from h); exact ⟨⟨rfl, rfl, rfl, by decide +kernel, rfl, by decide +kernel, by decide +kernel⟩, sb_are_deeds⟩
  | 23, h => cases (show some dI_is_opens = some d from h); exact ⟨⟨rfl, rfl, rfl, by decide +kernel, rfl, by decide +kernel, by decide +kernel⟩, sb_is_opens⟩
  | 24, h => cases (show some dI_is_integer = some d from h); exact ⟨⟨rfl, rfl, rfl, by decide +kernel, rfl, by decide +kernel, by decide +kernel⟩, sb_is_integer⟩
  | 25, h => cases (show some dI_are_rows = some d from h); exact ⟨⟨rfl, rfl, rfl, by decide +kernel, rfl, by decide +kernel, by decide +kernel⟩, sb_are_rows⟩
  | 26, h => cases (show some dI_names_in = some d from h); exact ⟨⟨rfl, rfl, rfl, by decide +kernel, rfl, by decide +kernel, by decide +kernel⟩, sb_names_in⟩
  | 27, h => cases (show some dI_Pair_init = some d from h); exact ⟨⟨rfl, rfl, rfl, by decide +kernel, rfl, by decide +kernel, by decide +kernel⟩, sb_Pair_init⟩
  | 28, h => cases (show some dI_Pair_steps = some d from h); exact ⟨⟨rfl, rfl, rfl, by decide +kernel, rfl, by decide +kernel, by decide +kernel⟩, sb_Pair_steps⟩
  | 29, h => cases (show some dI_Pair_standing = some d from h); exact ⟨⟨rfl, rfl, rfl, by decide +kernel, rfl, by decide +kernel, by decide +kernel⟩, sb_Pair_standing⟩
  | 30, h => cases (show some dI_is_possible = some d from h); exact ⟨⟨rfl, rfl, rfl, by decide +kernel, rfl, by decide +kernel, by decide +kernel⟩, sb_is_possible⟩
  | 31, h => cases (show some dI_card_in = some d from h); exact ⟨⟨rfl, rfl, rfl, by decide +kernel, rfl, by decide +kernel, by decide +kernel⟩, sb_card_in⟩
  | 32, h => cases (show some dI_is_test = some d from h); exact ⟨⟨rfl, rfl, rfl, by decide +kernel, rfl, by decide +kernel, by decide +kernel⟩, sb_is_test⟩
  | 33, h => cases (show some dI_is_deed = some d from h); exact ⟨⟨rfl, rfl, rfl, by decide +kernel, rfl, by decide +kernel, by decide +kernel⟩, sb_is_deed⟩
  | 34, h => cases (show some dI_name_in = some d from h); exact ⟨⟨rfl, rfl, rfl, by decide +kernel, rfl, by decide +kernel, by decide +kernel⟩, sb_name_in⟩
  | 35, h => cases (show some dI_Door_init = some d from h); exact ⟨⟨rfl, rfl, rfl, by decide +kernel, rfl, by decide +kernel, by decide +kernel⟩, sb_Door_init⟩
  | 36, h => cases (show some dI_Pair__behind_house = some d from h); exact ⟨⟨rfl, rfl, rfl, by decide +kernel, rfl, by decide +kernel, by decide +kernel⟩, sb_Pair__behind_house⟩
  | 37, h => cases (show some dI_Pair__behind_try = some d from h); exact ⟨⟨rfl, rfl, rfl, by decide +kernel, rfl, by decide +kernel, by decide +kernel⟩, sb_Pair__behind_try⟩
  | 38, h => cases (show some dI_is_lead_and_name = some d from h); exact ⟨⟨rfl, rfl, rfl, by decide +kernel, rfl, by decide +kernel, by decide +kernel⟩, sb_is_lead_and_name⟩
  | 39, h => cases (show some dI_word_for = some d from h); exact ⟨⟨rfl, rfl, rfl, by decide +kernel, rfl, by decide +kernel, by decide +kernel⟩, sb_word_for⟩
  | 40, h => cases (show some dI_Door__at_lots = some d from h); exact ⟨⟨rfl, rfl, rfl, by decide +kernel, rfl, by decide +kernel, by decide +kernel⟩, sb_Door__at_lots⟩
  | 41, h => cases (show some dI_Tool_deal = some d from h); exact ⟨⟨rfl, rfl, rfl, by decide +kernel, rfl, by decide +kernel, by decide +kernel⟩, sb_Tool_deal⟩
  | 42, h => cases (show some dI_Door_behind_house = some d from h); exact ⟨⟨rfl, rfl, rfl, by decide +kernel, rfl, by decide +kernel, by decide +kernel⟩, sb_Door_behind_house⟩
  | 43, h => cases (show some dI_Door_behind_try = some d from h); exact ⟨⟨rfl, rfl, rfl, by decide +kernel, rfl, by decide +kernel, by decide +kernel⟩, sb_Door_behind_try⟩
  | 44, h => cases (show some dI_is_name = some d from h); exact ⟨⟨rfl, rfl, rfl, by decide +kernel, rfl, by decide +kernel, by decide +kernel⟩, sb_is_name⟩
  | 45, h => cases (show some dI_is_for = some d from h); exact ⟨⟨rfl, rfl, rfl, by decide +kernel, rfl, by decide +kernel, by decide +kernel⟩, sb_is_for⟩
  | 46, h => cases (show some dI_marks_behind = some d from h); exact ⟨⟨rfl, rfl, rfl, by decide +kernel, rfl, by decide +kernel, by decide +kernel⟩, sb_marks_behind⟩
  | 47, h => cases (show some dI_Tool_answer = some d from h); exact ⟨⟨rfl, rfl, rfl, by decide +kernel, rfl, by decide +kernel, by decide +kernel⟩, sb_Tool_answer⟩
  | 48, h => cases (show some dI_Door_answer = some d from h); exact ⟨⟨rfl, rfl, rfl, by decide +kernel, rfl, by decide +kernel, by decide +kernel⟩, sb_Door_answer⟩
  | 49, h => cases (show some dI_is_fulfilled = some d from h); exact ⟨⟨rfl, rfl, rfl, by decide +kernel, rfl, by decide +kernel, by decide +kernel⟩, sb_is_fulfilled⟩
  | 50, h => cases (show some dI_Story_len = some d from h); exact ⟨⟨rfl, rfl, rfl, by decide +kernel, rfl, by decide +kernel, by decide +kernel⟩, sb_Story_len⟩
  | 51, h => cases (show some dI_law = some d from h); exact ⟨⟨rfl, rfl, rfl, by decide +kernel, rfl, by decide +kernel, by decide +kernel⟩, sb_law⟩
  | n + 52, h => exact absurd h (by intro h; cases h)
theorem bnd_0_2 {K : PySem.W.Frag} : BndAt tab K 0 2 := fun d fd h F => by
    cases (show some dI__law_feed = some d from h)
    exact ⟨[], .nil, FunD.bindsN F fun kV doc pm an cdv ct us hl => match us, hl with | [_, _], _ => rfl⟩
theorem bnd_1_2 {K : PySem.W.Frag} : BndAt tab K 1 2 := fun d fd h F => by
    cases (show some dI__law_mixed = some d from h)
    exact ⟨[], .nil, FunD.bindsN F fun kV doc pm an cdv ct us hl => match us, hl with | [_, _], _ => rfl⟩
theorem bnd_2_0 {K : PySem.W.Frag} : BndAt tab K 2 0 := fun d fd h F => by
    cases (show some dI__law_known = some d from h)
    exact ⟨[], .nil, FunD.bindsN F fun kV doc pm an cdv ct us hl => match us, hl with | [], _ => rfl⟩
theorem bnd_3_2 {K : PySem.W.Frag} : BndAt tab K 3 2 := fun d fd h F => by
    cases (show some dI_Row_read = some d from h)
    exact ⟨[], .nil, FunD.bindsN F fun kV doc pm an cdv ct us hl => match us, hl with | [_, _], _ => rfl⟩
theorem bnd_4_2 {K : PySem.W.Frag} : BndAt tab K 4 2 := fun d fd h F => by
    cases (show some dI_Tool_read = some d from h)
    exact ⟨[], .nil, FunD.bindsN F fun kV doc pm an cdv ct us hl => match us, hl with | [_, _], _ => rfl⟩
theorem bnd_5_3 {K : PySem.W.Frag} : BndAt tab K 5 3 := fun d fd h F => by
    cases (show some dI_parting = some d from h)
    exact ⟨[], .nil, FunD.bindsN F fun kV doc pm an cdv ct us hl => match us, hl with | [_, _, _], _ => rfl⟩
theorem bnd_6_3 {K : PySem.W.Frag} : BndAt tab K 6 3 := fun d fd h F => by
    cases (show some dI_alike = some d from h)
    exact ⟨[], .nil, FunD.bindsN F fun kV doc pm an cdv ct us hl => match us, hl with | [_, _, _], _ => rfl⟩
theorem bnd_7_2 {K : PySem.W.Frag} : BndAt tab K 7 2 := fun d fd h F => by
    cases (show some dI__law_take = some d from h)
    exact ⟨[], .nil, FunD.bindsN F fun kV doc pm an cdv ct us hl => match us, hl with | [_, _], _ => rfl⟩
theorem bnd_8_1 {K : PySem.W.Frag} : BndAt tab K 8 1 := fun d fd h F => by
    cases (show some dI_short_number = some d from h)
    exact ⟨[], .nil, FunD.bindsN F fun kV doc pm an cdv ct us hl => match us, hl with | [_], _ => rfl⟩
theorem bnd_9_4 {K : PySem.W.Frag} : BndAt tab K 9 4 := fun d fd h F => by
    cases (show some dI_Terms_init = some d from h)
    obtain ⟨ds, h1, h2⟩ := FunD.binds1 (ps := p_Terms_init) F 4 3 (by intro h; cases h) rfl fun T kV doc pm an cdv ct us its hu hi => match us, hu, its, hi with | [_, _, _, _], _, [_, _, _], _ => ⟨_, rfl, rfl⟩
    exact ⟨ds, h1, h2⟩
theorem bnd_10_2 {K : PySem.W.Frag} : BndAt tab K 10 2 := fun d fd h F => by
    cases (show some dI_Story_init = some d from h)
    obtain ⟨ds, h1, h2⟩ := FunD.binds1 (ps := p_Story_init) F 2 1 (by intro h; cases h) rfl fun T kV doc pm an cdv ct us its hu hi => match us, hu, its, hi with | [_, _], _, [_], _ => ⟨_, rfl, rfl⟩
    exact ⟨ds, h1, h2⟩
theorem bnd_11_5 {K : PySem.W.Frag} : BndAt tab K 11 5 := fun d fd h F => by
    cases (show some dI_Row_init = some d from h)
    obtain ⟨ds, h1, h2⟩ := FunD.binds1 (ps := p_Row_init) F 5 3 (by intro h; cases h) rfl fun T kV doc pm an cdv ct us its hu hi => match us, hu, its, hi with | [_, _, _, _, _], _, [_, _, _], _ => ⟨_, rfl, rfl⟩
    exact ⟨ds, h1, h2⟩
theorem bnd_12_1 {K : PySem.W.Frag} : BndAt tab K 12 1 := fun d fd h F => by
    cases (show some dI_is_window = some d from h)
    exact ⟨[], .nil, FunD.bindsN F fun kV doc pm an cdv ct us hl => match us, hl with | [_], _ => rfl⟩
theorem bnd_13_3 {K : PySem.W.Frag} : BndAt tab K 13 3 := fun d fd h F => by
    cases (show some dI_Tool_init = some d from h)
    obtain ⟨ds, h1, h2⟩ := FunD.binds1 (ps := p_Tool_init) F 3 1 (by intro h; cases h) rfl fun T kV doc pm an cdv ct us its hu hi => match us, hu, its, hi with | [_, _, _], _, [_], _ => ⟨_, rfl, rfl⟩
    exact ⟨ds, h1, h2⟩
theorem bnd_14_2 {K : PySem.W.Frag} : BndAt tab K 14 2 := fun d fd h F => by
    cases (show some dI_read_line = some d from h)
    exact ⟨[], .nil, FunD.bindsN F fun kV doc pm an cdv ct us hl => match us, hl with | [_, _], _ => rfl⟩
theorem bnd_15_3 {K : PySem.W.Frag} : BndAt tab K 15 3 := fun d fd h F => by
    cases (show some dI_parting_events = some d from h)
    exact ⟨[], .nil, FunD.bindsN F fun kV doc pm an cdv ct us hl => match us, hl with | [_, _, _], _ => rfl⟩
theorem bnd_16_1 {K : PySem.W.Frag} : BndAt tab K 16 1 := fun d fd h F => by
    cases (show some dI_is_number = some d from h)
    exact ⟨[], .nil, FunD.bindsN F fun kV doc pm an cdv ct us hl => match us, hl with | [_], _ => rfl⟩
theorem bnd_17_1 {K : PySem.W.Frag} : BndAt tab K 17 1 := fun d fd h F => by
    cases (show some dI_is_sequence = some d from h)
    exact ⟨[], .nil, FunD.bindsN F fun kV doc pm an cdv ct us hl => match us, hl with | [_], _ => rfl⟩
theorem bnd_18_1 {K : PySem.W.Frag} : BndAt tab K 18 1 := fun d fd h F => by
    cases (show some dI_first_wrong = some d from h)
    exact ⟨[], .nil, FunD.bindsN F fun kV doc pm an cdv ct us hl => match us, hl with | [_], _ => rfl⟩
theorem bnd_19_1 {K : PySem.W.Frag} : BndAt tab K 19 1 := fun d fd h F => by
    cases (show some dI_least_terms = some d from h)
    exact ⟨[], .nil, FunD.bindsN F fun kV doc pm an cdv ct us hl => match us, hl with | [_], _ => rfl⟩
theorem bnd_20_1 {K : PySem.W.Frag} : BndAt tab K 20 1 := fun d fd h F => by
    cases (show some dI_is_word = some d from h)
    exact ⟨[], .nil, FunD.bindsN F fun kV doc pm an cdv ct us hl => match us, hl with | [_], _ => rfl⟩
theorem bnd_21_1 {K : PySem.W.Frag} : BndAt tab K 21 1 := fun d fd h F => by
    cases (show some dI_are_tests = some d from h)
    exact ⟨[], .nil, FunD.bindsN F fun kV doc pm an cdv ct us hl => match us, hl with | [_], _ => rfl⟩
theorem bnd_22_2 {K : PySem.W.Frag} : BndAt tab K 22 2 := fun d fd h F => by
    cases (show some dI_are_deeds = some d from h)
    exact ⟨[], .nil, FunD.bindsN F fun kV doc pm an cdv ct us hl => match us, hl with | [_, _], _ => rfl⟩
theorem bnd_23_2 {K : PySem.W.Frag} : BndAt tab K 23 2 := fun d fd h F => by
    cases (show some dI_is_opens = some d from h)
    exact ⟨[], .nil, FunD.bindsN F fun kV doc pm an cdv ct us hl => match us, hl with | [_, _], _ => rfl⟩
theorem bnd_24_1 {K : PySem.W.Frag} : BndAt tab K 24 1 := fun d fd h F => by
    cases (show some dI_is_integer = some d from h)
    exact ⟨[], .nil, FunD.bindsN F fun kV doc pm an cdv ct us hl => match us, hl with | [_], _ => rfl⟩
theorem bnd_25_1 {K : PySem.W.Frag} : BndAt tab K 25 1 := fun d fd h F => by
    cases (show some dI_are_rows = some d from h)
    exact ⟨[], .nil, FunD.bindsN F fun kV doc pm an cdv ct us hl => match us, hl with | [_], _ => rfl⟩
theorem bnd_26_1 {K : PySem.W.Frag} : BndAt tab K 26 1 := fun d fd h F => by
    cases (show some dI_names_in = some d from h)
    exact ⟨[], .nil, FunD.bindsN F fun kV doc pm an cdv ct us hl => match us, hl with | [_], _ => rfl⟩
theorem bnd_27_4 {K : PySem.W.Frag} : BndAt tab K 27 4 := fun d fd h F => by
    cases (show some dI_Pair_init = some d from h)
    exact ⟨[], .nil, FunD.bindsN F fun kV doc pm an cdv ct us hl => match us, hl with | [_, _, _, _], _ => rfl⟩
theorem bnd_28_2 {K : PySem.W.Frag} : BndAt tab K 28 2 := fun d fd h F => by
    cases (show some dI_Pair_steps = some d from h)
    exact ⟨[], .nil, FunD.bindsN F fun kV doc pm an cdv ct us hl => match us, hl with | [_, _], _ => rfl⟩
theorem bnd_29_2 {K : PySem.W.Frag} : BndAt tab K 29 2 := fun d fd h F => by
    cases (show some dI_Pair_standing = some d from h)
    exact ⟨[], .nil, FunD.bindsN F fun kV doc pm an cdv ct us hl => match us, hl with | [_, _], _ => rfl⟩
theorem bnd_30_2 {K : PySem.W.Frag} : BndAt tab K 30 2 := fun d fd h F => by
    cases (show some dI_is_possible = some d from h)
    exact ⟨[], .nil, FunD.bindsN F fun kV doc pm an cdv ct us hl => match us, hl with | [_, _], _ => rfl⟩
theorem bnd_31_1 {K : PySem.W.Frag} : BndAt tab K 31 1 := fun d fd h F => by
    cases (show some dI_card_in = some d from h)
    exact ⟨[], .nil, FunD.bindsN F fun kV doc pm an cdv ct us hl => match us, hl with | [_], _ => rfl⟩
theorem bnd_32_1 {K : PySem.W.Frag} : BndAt tab K 32 1 := fun d fd h F => by
    cases (show some dI_is_test = some d from h)
    exact ⟨[], .nil, FunD.bindsN F fun kV doc pm an cdv ct us hl => match us, hl with | [_], _ => rfl⟩
theorem bnd_33_1 {K : PySem.W.Frag} : BndAt tab K 33 1 := fun d fd h F => by
    cases (show some dI_is_deed = some d from h)
    exact ⟨[], .nil, FunD.bindsN F fun kV doc pm an cdv ct us hl => match us, hl with | [_], _ => rfl⟩
theorem bnd_34_1 {K : PySem.W.Frag} : BndAt tab K 34 1 := fun d fd h F => by
    cases (show some dI_name_in = some d from h)
    exact ⟨[], .nil, FunD.bindsN F fun kV doc pm an cdv ct us hl => match us, hl with | [_], _ => rfl⟩
theorem bnd_35_2 {K : PySem.W.Frag} : BndAt tab K 35 2 := fun d fd h F => by
    cases (show some dI_Door_init = some d from h)
    exact ⟨[], .nil, FunD.bindsN F fun kV doc pm an cdv ct us hl => match us, hl with | [_, _], _ => rfl⟩
theorem bnd_36_3 {K : PySem.W.Frag} : BndAt tab K 36 3 := fun d fd h F => by
    cases (show some dI_Pair__behind_house = some d from h)
    exact ⟨[], .nil, FunD.bindsN F fun kV doc pm an cdv ct us hl => match us, hl with | [_, _, _], _ => rfl⟩
theorem bnd_37_3 {K : PySem.W.Frag} : BndAt tab K 37 3 := fun d fd h F => by
    cases (show some dI_Pair__behind_try = some d from h)
    exact ⟨[], .nil, FunD.bindsN F fun kV doc pm an cdv ct us hl => match us, hl with | [_, _, _], _ => rfl⟩
theorem bnd_38_2 {K : PySem.W.Frag} : BndAt tab K 38 2 := fun d fd h F => by
    cases (show some dI_is_lead_and_name = some d from h)
    exact ⟨[], .nil, FunD.bindsN F fun kV doc pm an cdv ct us hl => match us, hl with | [_, _], _ => rfl⟩
theorem bnd_39_3 {K : PySem.W.Frag} : BndAt tab K 39 3 := fun d fd h F => by
    cases (show some dI_word_for = some d from h)
    exact ⟨[], .nil, FunD.bindsN F fun kV doc pm an cdv ct us hl => match us, hl with | [_, _, _], _ => rfl⟩
theorem bnd_40_2 {K : PySem.W.Frag} : BndAt tab K 40 2 := fun d fd h F => by
    cases (show some dI_Door__at_lots = some d from h)
    exact ⟨[], .nil, FunD.bindsN F fun kV doc pm an cdv ct us hl => match us, hl with | [_, _], _ => rfl⟩
theorem bnd_41_3 {K : PySem.W.Frag} : BndAt tab K 41 3 := fun d fd h F => by
    cases (show some dI_Tool_deal = some d from h)
    exact ⟨[], .nil, FunD.bindsN F fun kV doc pm an cdv ct us hl => match us, hl with | [_, _, _], _ => rfl⟩
theorem bnd_42_4 {K : PySem.W.Frag} : BndAt tab K 42 4 := fun d fd h F => by
    cases (show some dI_Door_behind_house = some d from h)
    exact ⟨[], .nil, FunD.bindsN F fun kV doc pm an cdv ct us hl => match us, hl with | [_, _, _, _], _ => rfl⟩
theorem bnd_43_4 {K : PySem.W.Frag} : BndAt tab K 43 4 := fun d fd h F => by
    cases (show some dI_Door_behind_try = some d from h)
    exact ⟨[], .nil, FunD.bindsN F fun kV doc pm an cdv ct us hl => match us, hl with | [_, _, _, _], _ => rfl⟩
theorem bnd_44_1 {K : PySem.W.Frag} : BndAt tab K 44 1 := fun d fd h F => by
    cases (show some dI_is_name = some d from h)
    exact ⟨[], .nil, FunD.bindsN F fun kV doc pm an cdv ct us hl => match us, hl with | [_], _ => rfl⟩
theorem bnd_45_3 {K : PySem.W.Frag} : BndAt tab K 45 3 := fun d fd h F => by
    cases (show some dI_is_for = some d from h)
    exact ⟨[], .nil, FunD.bindsN F fun kV doc pm an cdv ct us hl => match us, hl with | [_, _, _], _ => rfl⟩
theorem bnd_46_2 {K : PySem.W.Frag} : BndAt tab K 46 2 := fun d fd h F => by
    cases (show some dI_marks_behind = some d from h)
    exact ⟨[], .nil, FunD.bindsN F fun kV doc pm an cdv ct us hl => match us, hl with | [_, _], _ => rfl⟩
theorem bnd_48_3 {K : PySem.W.Frag} : BndAt tab K 48 3 := fun d fd h F => by
    cases (show some dI_Door_answer = some d from h)
    exact ⟨[], .nil, FunD.bindsN F fun kV doc pm an cdv ct us hl => match us, hl with | [_, _, _], _ => rfl⟩
theorem bnd_49_2 {K : PySem.W.Frag} : BndAt tab K 49 2 := fun d fd h F => by
    cases (show some dI_is_fulfilled = some d from h)
    exact ⟨[], .nil, FunD.bindsN F fun kV doc pm an cdv ct us hl => match us, hl with | [_, _], _ => rfl⟩
theorem bnd_50_1 {K : PySem.W.Frag} : BndAt tab K 50 1 := fun d fd h F => by
    cases (show some dI_Story_len = some d from h)
    exact ⟨[], .nil, FunD.bindsN F fun kV doc pm an cdv ct us hl => match us, hl with | [_], _ => rfl⟩
theorem bnd_51_1 {K : PySem.W.Frag} : BndAt tab K 51 1 := fun d fd h F => by
    cases (show some dI_law = some d from h)
    exact ⟨[], .nil, FunD.bindsN F fun kV doc pm an cdv ct us hl => match us, hl with | [_], _ => rfl⟩
theorem bnds {K : PySem.W.Frag} : BndAll tab K tab.bnds := ⟨bnd_0_2, bnd_1_2, bnd_2_0, bnd_3_2, bnd_4_2, bnd_5_3, bnd_6_3, bnd_7_2, bnd_8_1, bnd_9_4, bnd_10_2, bnd_11_5, bnd_12_1, bnd_13_3, bnd_14_2, bnd_15_3, bnd_16_1, bnd_17_1, bnd_18_1, bnd_19_1, bnd_20_1, bnd_21_1, bnd_22_2, bnd_23_2, bnd_24_1, bnd_25_1, bnd_26_1, bnd_27_4, bnd_28_2, bnd_29_2, bnd_30_2, bnd_31_1, bnd_32_1, bnd_33_1, bnd_34_1, bnd_35_2, bnd_36_3, bnd_37_3, bnd_38_2, bnd_39_3, bnd_40_2, bnd_41_3, bnd_42_4, bnd_43_4, bnd_44_1, bnd_45_3, bnd_46_2, bnd_48_3, bnd_49_2, bnd_50_1, bnd_51_1, True.intro⟩
theorem kbs {K : PySem.W.Frag} : KbAll tab K tab.kbnds := True.intro
end K

set_option autoImplicit false
/-! the machine, rule by rule -/
namespace EV
open PySem PySem.Spec PyProof.Rows L2 DL
section
variable {c : Call} {ρ ρ1 ρ2 : Rho} {M M1 M2 M3 : MS} {v x y z : SV} {a b e o : IE} {as : IAs} {r : R} {t u : IT} {i j : Nat} {op o1 o2 : BOp}
theorem e_var (h : ρ[i]? = some (some v)) : evE c (.var i) ρ M = some (v, M) := by unfold evE; rw [h]
theorem e_cst {d : D} : evE c (.cst d) ρ M = some (.d d, M) := by unfold evE; rfl
theorem e_bin (ha : evE c a ρ M = some (x, M1)) (hb : evE c b ρ M1 = some (y, M2)) (h : evBin op M2 x y = r) : evE c (.bin op a b) ρ M = r := by
  unfold evE; rw [ha]; dsimp only [Option.bind_some]; rw [hb]; exact h
theorem e_neg {n : Int} (ha : evE c a ρ M = some (.d (.int n), M1)) : evE c (.neg a) ρ M = some (.d (.int (-n)), M1) := by
  unfold evE; rw [ha]; rfl
theorem e_not {k : Bool} (ha : evE c a ρ M = some (x, M1)) (h : tru M1 x = some k) : evE c (.not a) ρ M = some (.d (.bl (!k)), M1) := by
  unfold evE; rw [ha]; dsimp only [Option.bind_some]; rw [h]; rfl
theorem e_and {k : Bool} (ha : evE c a ρ M = some (x, M1)) (h : tru M1 x = some k) (hb : (if k then evE c b ρ M1 else some (x, M1)) = r) : evE c (.and a b) ρ M = r := by
  unfold evE; rw [ha]; dsimp only [Option.bind_some]; rw [h]; exact hb
theorem e_or {k : Bool} (ha : evE c a ρ M = some (x, M1)) (h : tru M1 x = some k) (hb : (if k then some (x, M1) else evE c b ρ M1) = r) : evE c (.or a b) ρ M = r := by
  unfold evE; rw [ha]; dsimp only [Option.bind_some]; rw [h]; exact hb
theorem e_ife {k : Bool} (ha : evT c t ρ M = some (k, M1)) (hb : (if k then evE c a ρ M1 else evE c b ρ M1) = r) : evE c (.ife t a b) ρ M = r := by
  unfold evE; rw [ha]; exact hb
theorem e_cmp {op : COp} {k : Bool} (ha : evE c a ρ M = some (x, M1)) (hb : evE c b ρ M1 = some (y, M2)) (h : evCmp op M2 x y = some k) : evE c (.cmp op a b) ρ M = some (.d (.bl k), M2) := by
  unfold evE; rw [ha]; dsimp only [Option.bind_some]; rw [hb]; dsimp only [Option.bind_some]; rw [h]; rfl
theorem e_lst {xs : List SV} {l : List D} (h : evA c as ρ M = some (xs, M1)) (h1 : xs.length ≤ 1000) (h2 : allD xs = some l) : evE c (.lst false as) ρ M = some (.d (.lst l), M1) := by
  unfold evE; rw [h]; dsimp only [Option.bind_some]; rw [if_pos h1]; show (allD xs).bind _ = _; rw [h2]; rfl
theorem e_lstO {xs : List SV} (h : evA c as ρ M = some (xs, M1)) (h1 : xs.length ≤ 1000) : evE c (.lst true as) ρ M = some (.ob M1.length, M1 ++ [some (.lst xs)]) := by
  unfold evE; rw [h]; dsimp only [Option.bind_some]; rw [if_pos h1]; rfl
theorem e_tup {xs : List SV} {l : List D} (h : evA c as ρ M = some (xs, M1)) (h1 : xs.length ≤ 1000) (h2 : allD xs = some l) : evE c (.tup as) ρ M = some (.d (.tup l), M1) := by
  unfold evE; rw [h]; dsimp only [Option.bind_some]; rw [if_pos h1, h2]; rfl
theorem e_ix (ha : evE c a ρ M = some (x, M1)) (hb : evE c b ρ M1 = some (y, M2)) (h : evIx M2 x y = r) : evE c (.ix a b) ρ M = r := by
  unfold evE; rw [ha]; dsimp only [Option.bind_some]; rw [hb]; exact h
theorem e_slc {lo hi : IO} {m n : Option Int} (ha : evE c a ρ M = some (x, M1)) (h1 : evO c lo ρ M1 = some (m, M2)) (h2 : evO c hi ρ M2 = some (n, M3)) (h : evSlc M3 x m n = r) : evE c (.slc a lo hi) ρ M = r := by
  unfold evE; rw [ha]; dsimp only [Option.bind_some]; rw [h1]; dsimp only [Option.bind_some]; rw [h2]; exact h
theorem e_rev {l : List SV} (ha : evE c a ρ M = some (x, M1)) (h : lstOf M1 x = some l) : evE c (.rev a) ρ M = some (.ob M1.length, M1 ++ [some (.lst l.reverse)]) := by
  unfold evE; rw [ha]; dsimp only [Option.bind_some]; rw [h]; rfl
theorem e_fld {cs : List Nat} {f : Str} {k : Nat} (ha : evE c a ρ M = some (x, M1)) (h : clsOf M1 x = some k) (hc : cs.contains k = true) (hf : fldOf M1 f x = some v) : evE c (.fld cs f a) ρ M = some (v, M1) := by
  unfold evE; rw [ha]; dsimp only [Option.bind_some]; rw [h]; dsimp only [Option.bind_some]; rw [if_pos hc, hf]; rfl
theorem e_call {f : Nat} {dv : List D} {sh : Bool} {xs : List SV} (h : evA c as ρ M = some (xs, M1)) (hc : anyC c sh f (xs ++ dv.map SV.d) M1 = r) : evE c (.call f dv sh as) ρ M = r := by
  unfold evE; rw [h]; exact hc
theorem e_makeP {k f : Nat} {dv : List D} {xs : List SV} (h : evA c as ρ M = some (xs, M1)) (hc : pureMk c k f (xs ++ dv.map SV.d) M1 = r) : evE c (.make k f dv false as) ρ M = r := by
  unfold evE; rw [h]; exact hc
theorem e_meth {nm : Str} {m : List (Nat × Nat)} {dv : List D} {sh : Bool} {k f : Nat} {xs : List SV} (ha : evE c o ρ M = some (x, M1)) (hn : (fldOf M1 nm x).isNone = true) (h : clsOf M1 x = some k) (hf : m.lookup k = some f) (hs : evA c as ρ M1 = some (xs, M2)) (hc : anyC c sh f (x :: (xs ++ dv.map SV.d)) M2 = r) : evE c (.meth nm m dv sh o as) ρ M = r := by
  unfold evE; rw [ha]; dsimp only [Option.bind_some]; rw [if_pos hn, h]; dsimp only [Option.bind_some]; rw [hf]; dsimp only [Option.bind_some]; rw [hs]; exact hc
theorem e_bi {f : Bi} {xs : List SV} (h : evA c as ρ M = some (xs, M1)) (hr : evBi f M1 xs = r) : evE c (.bi f as) ρ M = r := by
  unfold evE; rw [h]; exact hr
theorem e_bm {m : Bm} {xs : List SV} (ha : evE c o ρ M = some (x, M1)) (hk : bmOk m M1 x = true) (hs : evA c as ρ M1 = some (xs, M2)) (h : evBm m M2 x xs = r) : evE c (.bm m o as) ρ M = r := by
  unfold evE; rw [ha]; dsimp only [Option.bind_some]; rw [if_pos hk, hs]; exact h
theorem e_lc {ob : Bool} {vs : List Nat} {tg : ITg} {it : II} {l : List SV} {ys : List SV} (hi : evI c it ρ M = some (.xs l, M1)) (hl : l.length ≤ 100000) (h : lcL (lcB c vs tg t e ρ) l [] M1 = some (ys, M2)) (hr : (if ob then new M2 (.lst ys) else (allD ys).bind fun l => ret (.lst l) M2) = r) : evE c (.lc ob vs tg it t e) ρ M = r := by
  unfold evE; rw [hi]; dsimp only [Option.bind_some]; rw [if_pos hl]
  show ((lcL (lcB c vs tg t e ρ) l [] M1).bind _) = _
  rw [h]; exact hr
theorem t_tt : evT c .tt ρ M = some (true, M) := by unfold evT; rfl
theorem t_val {k : Bool} (ha : evE c a ρ M = some (x, M1)) (h : tru M1 x = some k) : evT c (.val a) ρ M = some (k, M1) := by
  unfold evT; rw [ha]; dsimp only [Option.bind_some]; rw [h]; rfl
theorem t_bl {k : Bool} (ha : evE c a ρ M = some (.d (.bl k), M1)) : evT c (.val a) ρ M = some (k, M1) := t_val ha rfl
theorem t_not {k : Bool} (h : evT c t ρ M = some (k, M1)) : evT c (.not t) ρ M = some (!k, M1) := by
  unfold evT; rw [h]; rfl
theorem t_and {k : Bool} {r : Option (Bool × MS)} (h : evT c t ρ M = some (k, M1)) (hb : (if k then evT c u ρ M1 else some (false, M1)) = r) : evT c (.and t u) ρ M = r := by
  unfold evT; rw [h]; exact hb
theorem t_or {k : Bool} {r : Option (Bool × MS)} (h : evT c t ρ M = some (k, M1)) (hb : (if k then some (true, M1) else evT c u ρ M1) = r) : evT c (.or t u) ρ M = r := by
  unfold evT; rw [h]; exact hb
theorem o_no : evO c .no ρ M = some (none, M) := by unfold evO; rfl
theorem o_at {n : Int} (h : evE c a ρ M = some (.d (.int n), M1)) : evO c (.at a) ρ M = some (some n, M1) := by unfold evO; rw [h]; rfl
theorem a_nil : evA c .nil ρ M = some ([], M) := by unfold evA; rfl
theorem a_cons {xs : List SV} (h : evE c a ρ M = some (x, M1)) (hs : evA c as ρ M1 = some (xs, M2)) : evA c (.cons a as) ρ M = some (x :: xs, M2) := by
  unfold evA; rw [h]; dsimp only [Option.bind_some]; rw [hs]; rfl
theorem i_seq {d : D} {l : List SV} (h : evE c a ρ M = some (.d d, M1)) (hl : seqOf M1 (.d d) = some l) : evI c (.seq a) ρ M = some (.xs l, M1) := by
  unfold evI; rw [h]; dsimp only [Option.bind_some]; rw [hl]; rfl
theorem i_ob {n : Nat} {l : List SV} (h : evE c a ρ M = some (.ob n, M1)) (hl : obj M1 n = some (.lst l)) : evI c (.seq a) ρ M = some (.ob n, M1) := by
  unfold evI; rw [h]; dsimp only [Option.bind_some]; rw [hl]
theorem i_rng {n : Int} (h : evE c a ρ M = some (.d (.int n), M1)) (hn : -1000000 ≤ n ∧ n ≤ 1000000) : evI c (.rng a) ρ M = some (.xs ((List.range n.toNat).map fun (i : Nat) => SV.d (.int (i : Int))), M1) := by
  unfold evI; rw [h]; dsimp only [Option.bind_some]; rw [if_pos hn]
theorem i_enum {s : Int} {d : D} {l : List D} (h : evE c a ρ M = some (.d d, M1)) (hl : seqD d = some l) : evI c (.enum s a) ρ M = some (.xs ((l.zipIdx).map fun p => .d (.tup [.int (s + p.2), p.1])), M1) := by
  unfold evI; rw [h]; dsimp only [Option.bind_some]; rw [hl]; rfl
/-! ### statements -/
variable {st : IS} {bs b1 b2 : IBs} {f : Fl} {rs : RS}
theorem s_set (h : evE c a ρ M = some (x, M1)) : evS c (.set i a) ρ M = some (.nx, ρ.set i (some x), M1) := by
  unfold evS; rw [h]; rfl
theorem s_unp {is : List Nat} {l : List SV} (h : evE c a ρ M = some (x, M1)) (hl : seqOf M1 x = some l) (hs : setAll is l ρ = some ρ1) : evS c (.unp is a) ρ M = some (.nx, ρ1, M1) := by
  unfold evS; rw [h]; dsimp only [Option.bind_some]; rw [hl]; dsimp only [Option.bind_some]; rw [hs]; rfl
theorem s_par (ha : evE c a ρ M = some (x, M1)) (hb : evE c b ρ M1 = some (y, M2)) : evS c (.par i j a b) ρ M = some (.nx, (ρ.set i (some x)).set j (some y), M2) := by
  unfold evS; rw [ha]; dsimp only [Option.bind_some]; rw [hb]; rfl
theorem s_fld {cs : List Nat} {nm : Str} {k : Nat} (h : evE c e ρ M = some (x, M1)) (ho : evE c o ρ M1 = some (y, M2)) (hc : clsOf M2 y = some k) (hk : cs.contains k = true) (hp : fldPut M2 y nm x = some M3) : evS c (.fldS cs o nm e) ρ M = some (.nx, ρ, M3) := by
  unfold evS; rw [h]; dsimp only [Option.bind_some]; rw [ho]; dsimp only [Option.bind_some]; rw [hc]; dsimp only [Option.bind_some]; rw [if_pos hk, hp]; rfl
theorem s_sub {n k : Nat} {l : List SV} {w : Int} {ie : IE} (h : evE c e ρ M = some (x, M1)) (ho : evE c o ρ M1 = some (.ob n, M2)) (hi : evE c ie ρ M2 = some (.d (.int w), M3)) (hl : obj M3 n = some (.lst l)) (hk : ixN l.length w = some k) : evS c (.subS o ie e) ρ M = some (.nx, ρ, put M3 n (.lst (l.set k x))) := by
  unfold evS; rw [h]; dsimp only [Option.bind_some]; rw [ho]; dsimp only [Option.bind_some]; rw [hi]; dsimp only [Option.bind_some]; rw [hl]; dsimp only; rw [hk]; rfl
theorem s_aug {op : BOp} {p q : Int} (hv : ρ[i]? = some (some (.d (.int p)))) (h : evE c e ρ M = some (.d (.int q), M1)) (hr : evBin op M1 (.d (.int p)) (.d (.int q)) = some (x, M2)) : evS c (.aug i op e) ρ M = some (.nx, ρ.set i (some x), M2) := by
  unfold evS; rw [hv]; dsimp only; rw [h]; dsimp only [Option.bind_some]; rw [hr]; rfl
theorem s_expr (h : evE c a ρ M = some (x, M1)) : evS c (.expr a) ρ M = some (.nx, ρ, M1) := by unfold evS; rw [h]; rfl
theorem s_ret (h : evE c a ρ M = some (x, M1)) : evS c (.ret a) ρ M = some (.rt x, ρ, M1) := by unfold evS; rw [h]; rfl
theorem s_if {k : Bool} (h : evT c t ρ M = some (k, M1)) (hb : (if k then evB c b1 ρ M1 else evB c b2 ρ M1) = rs) : evS c (.ife t b1 b2) ρ M = rs := by
  unfold evS; rw [h]; exact hb
theorem s_ifT (h : evT c t ρ M = some (true, M1)) (hb : evB c b1 ρ M1 = rs) : evS c (.ife t b1 b2) ρ M = rs := s_if h (by rw [if_pos rfl]; exact hb)
theorem s_ifF (h : evT c t ρ M = some (false, M1)) (hb : evB c b2 ρ M1 = rs) : evS c (.ife t b1 b2) ρ M = rs := s_if h (by rw [if_neg (by decide)]; exact hb)
/-- if not ..: raise -/
theorem s_no (h : evT c t ρ M = some (false, M1)) : evS c (.ife t b1 .nil) ρ M = some (.nx, ρ, M1) := s_if h (by rw [if_neg (by decide)]; unfold evB; rfl)
theorem e_ifeT (ha : evT c t ρ M = some (true, M1)) (hb : evE c a ρ M1 = r) : evE c (.ife t a b) ρ M = r := e_ife ha (by rw [if_pos rfl]; exact hb)
theorem e_ifeF (ha : evT c t ρ M = some (false, M1)) (hb : evE c b ρ M1 = r) : evE c (.ife t a b) ρ M = r := e_ife ha (by rw [if_neg (by decide)]; exact hb)
theorem t_andT {r : Option (Bool × MS)} (h : evT c t ρ M = some (true, M1)) (hb : evT c u ρ M1 = r) : evT c (.and t u) ρ M = r := t_and h (by rw [if_pos rfl]; exact hb)
theorem t_andF (h : evT c t ρ M = some (false, M1)) : evT c (.and t u) ρ M = some (false, M1) := t_and h (by rw [if_neg (by decide)])
theorem t_orF {r : Option (Bool × MS)} (h : evT c t ρ M = some (false, M1)) (hb : evT c u ρ M1 = r) : evT c (.or t u) ρ M = r := t_or h (by rw [if_neg (by decide)]; exact hb)
theorem t_orT (h : evT c t ρ M = some (true, M1)) : evT c (.or t u) ρ M = some (true, M1) := t_or h (by rw [if_pos rfl])
theorem s_whl (h : whl (fun ρ M => evT c t ρ M) (fun ρ M => evB c bs ρ M) 1000 ρ M = rs) : evS c (.whl t bs) ρ M = rs := by unfold evS; exact h
def forB (c : Call) (tg : ITg) (bs : IBs) : SV → Rho → MS → RS := fun x ρ M => (bindT tg x ρ).bind fun ρ => evB c bs ρ M
theorem s_for {tg : ITg} {it : II} {l : List SV} (hi : evI c it ρ M = some (.xs l, M1)) (h : forL (forB c tg bs) l ρ M1 = rs) : evS c (.forr tg it bs) ρ M = rs := by
  unfold evS; rw [hi]; exact h
theorem s_forO {tg : ITg} {it : II} {n : Nat} (hi : evI c it ρ M = some (.ob n, M1)) (h : forO (forB c tg bs) n 1000 0 ρ M1 = rs) : evS c (.forr tg it bs) ρ M = rs := by
  unfold evS; rw [hi]; exact h
theorem s_pass : evS c .pass ρ M = some (.nx, ρ, M) := by unfold evS; rfl
theorem s_cnt : evS c .cnt ρ M = some (.ct, ρ, M) := by unfold evS; rfl
theorem s_brk : evS c .brk ρ M = some (.bk, ρ, M) := by unfold evS; rfl
theorem s_try (h : evB c bs ρ M = rs) : evS c (.tryy bs) ρ M = rs := by unfold evS; exact h
theorem b_nil : evB c .nil ρ M = some (.nx, ρ, M) := by unfold evB; rfl
theorem b_nx (h : evS c st ρ M = some (.nx, ρ1, M1)) (hb : evB c bs ρ1 M1 = rs) : evB c (.cons st bs) ρ M = rs := by
  unfold evB; rw [h]; exact hb
theorem b_rt (h : evS c st ρ M = some (.rt v, ρ1, M1)) : evB c (.cons st bs) ρ M = some (.rt v, ρ1, M1) := by
  unfold evB; rw [h]; rfl
theorem b_ct (h : evS c st ρ M = some (.ct, ρ1, M1)) : evB c (.cons st bs) ρ M = some (.ct, ρ1, M1) := by
  unfold evB; rw [h]; rfl
theorem b_bk (h : evS c st ρ M = some (.bk, ρ1, M1)) : evB c (.cons st bs) ρ M = some (.bk, ρ1, M1) := by
  unfold evB; rw [h]; rfl
theorem body_rt {n : Nat} {xs : List SV} (hs : startD (List.replicate n ("" : Str)) xs = ρ) (h : evB c bs ρ M = some (.rt v, ρ1, M1)) : body c n bs xs M = some (v, M1) := by
  unfold body; rw [hs, h]
theorem body_nx {n : Nat} {xs : List SV} (hs : startD (List.replicate n ("" : Str)) xs = ρ) (h : evB c bs ρ M = some (.nx, ρ1, M1)) : body c n bs xs M = some (.d .non, M1) := by
  unfold body; rw [hs, h]
theorem whl_go {tt : Rho → MS → Option (Bool × MS)} {bb : Rho → MS → RS} {n : Nat} (h : tt ρ M = some (true, M1)) (hb : bb ρ M1 = some (.nx, ρ1, M2)) (hr : whl tt bb n ρ1 M2 = rs) : whl tt bb (n + 1) ρ M = rs := by
  unfold whl; rw [h]; dsimp only; rw [hb]; exact hr
theorem whl_end {tt : Rho → MS → Option (Bool × MS)} {bb : Rho → MS → RS} {n : Nat} (h : tt ρ M = some (false, M1)) : whl tt bb (n + 1) ρ M = some (.nx, ρ, M1) := by
  unfold whl; rw [h]
theorem for_nil {bb : SV → Rho → MS → RS} : forL bb [] ρ M = some (.nx, ρ, M) := rfl
theorem for_go {bb : SV → Rho → MS → RS} {l : List SV} (h : bb x ρ M = some (.nx, ρ1, M1)) (hr : forL bb l ρ1 M1 = rs) : forL bb (x :: l) ρ M = rs := by
  unfold forL; rw [h]; exact hr
theorem for_ct {bb : SV → Rho → MS → RS} {l : List SV} (h : bb x ρ M = some (.ct, ρ1, M1)) (hr : forL bb l ρ1 M1 = rs) : forL bb (x :: l) ρ M = rs := by
  unfold forL; rw [h]; exact hr
theorem for_rt {bb : SV → Rho → MS → RS} {l : List SV} (h : bb x ρ M = some (.rt v, ρ1, M1)) : forL bb (x :: l) ρ M = some (.rt v, ρ1, M1) := by
  unfold forL; rw [h]
theorem lcb_yes {vs : List Nat} {tg : ITg} (hb : bindT tg x (wipeD ρ vs) = some ρ1) (ht : evT c t ρ1 M = some (true, M1)) (he : evE c e ρ1 M1 = some (y, M2)) : lcB c vs tg t e ρ x M = some (some y, M2) := by
  unfold lcB; rw [hb]; dsimp only [Option.bind_some]; rw [ht]; dsimp only [Option.bind_some]; rw [if_pos rfl, he]; rfl
theorem lcb_no {vs : List Nat} {tg : ITg} (hb : bindT tg x (wipeD ρ vs) = some ρ1) (ht : evT c t ρ1 M = some (false, M1)) : lcB c vs tg t e ρ x M = some (none, M1) := by
  unfold lcB; rw [hb]; dsimp only [Option.bind_some]; rw [ht]; rfl
theorem e_lcO {ob : Bool} {vs : List Nat} {tg : ITg} {it : II} {n : Nat} {ys : List SV} (hi : evI c it ρ M = some (.ob n, M1)) (h : lcO (lcB c vs tg t e ρ) n 1000 0 [] M1 = some (ys, M2)) (hr : (if ob then new M2 (.lst ys) else (allD ys).bind fun l => ret (.lst l) M2) = r) : evE c (.lc ob vs tg it t e) ρ M = r := by
  unfold evE; rw [hi]; dsimp only [Option.bind_some]
  show ((lcO (lcB c vs tg t e ρ) n 1000 0 [] M1).bind _) = _
  rw [h]; exact hr
theorem e_sc2 {vs : List Nat} {it2 : IE} {rows : List D} {zs : List Str} (ha : evE c a ρ M = some (.d (.tup rows), M1)) (h : scO (fun r M => evE c it2 ((wipeD ρ vs).set i (some r)) M) (fun r y M => evE c e (((wipeD ρ vs).set i (some r)).set j (some y)) M) (rows.map SV.d) [] M1 = some (zs, M2)) : evE c (.sc2 vs i a j it2 e) ρ M = some (.ob M2.length, M2 ++ [some (.tset (onceS zs))]) := by
  unfold evE; rw [ha]; dsimp only [Option.bind_some]; rw [h]; rfl
end
section
variable {M : MS} {b : SV → MS → Option (Option SV × MS)} {bb : SV → Rho → MS → RS}
theorem lcO_map {f : SV → SV} {a : Nat} {l : List SV} (hl : obj M a = some (.lst l)) (h : ∀ x ∈ l, b x M = some (some (f x), M)) : ∀ (n i : Nat) (ys : List SV), l.length < n + i → i ≤ l.length → lcO b a n i ys M = some (ys ++ (l.drop i).map f, M)
  | 0, i, ys, h1, h2 => by omega
  | n + 1, i, ys, h1, h2 => by
    unfold lcO
    rw [hl]
    dsimp only
    by_cases hi : i < l.length
    · rw [List.getElem?_eq_getElem hi]
      dsimp only
      rw [h _ (List.getElem_mem hi)]
      dsimp only
      rw [lcO_map hl h n (i + 1) _ (by omega) (by omega), List.drop_eq_getElem_cons hi, List.map_cons, List.append_assoc]
      rfl
    · rw [List.getElem?_eq_none (by omega)]
      dsimp only
      rw [List.drop_eq_nil_of_le (by omega)]
      simp
theorem scO_none {inn : SV → MS → R} {ev : SV → SV → MS → R} {zs : List Str} : ∀ {rows : List SV}, (∀ x ∈ rows, inn x M = some (.d (.lst []), M)) → scO inn ev rows zs M = some (zs, M)
  | [], _ => rfl
  | x :: rows, h => by
    unfold scO
    rw [h x List.mem_cons_self]
    exact scO_none fun y hy => h y (List.mem_cons_of_mem _ hy)
theorem forL_inv {P : Rho → MS → Prop} : ∀ {l : List SV} {ρ : Rho} {M : MS}, (∀ x ∈ l, ∀ ρ M, P ρ M → ∃ ρ' M', bb x ρ M = some (.nx, ρ', M') ∧ P ρ' M') → P ρ M → ∃ ρ' M', forL bb l ρ M = some (.nx, ρ', M') ∧ P ρ' M'
  | [], ρ, M, _, p => ⟨ρ, M, rfl, p⟩
  | x :: l, ρ, M, h, p => by
    obtain ⟨ρ1, M1, e1, p1⟩ := h x List.mem_cons_self ρ M p
    obtain ⟨ρ2, M2, e2, p2⟩ := forL_inv (fun y hy => h y (List.mem_cons_of_mem _ hy)) p1
    exact ⟨ρ2, M2, for_go e1 e2, p2⟩
/-- over a list that stays: nothing of the store is changed -/
theorem forO_inv {P : Rho → Prop} {a : Nat} {l : List SV} (hl : obj M a = some (.lst l)) (h : ∀ x ∈ l, ∀ ρ, P ρ → ∃ ρ', bb x ρ M = some (.nx, ρ', M) ∧ P ρ') : ∀ (n i : Nat) (ρ : Rho), l.length < n + i → i ≤ l.length → P ρ → ∃ ρ', forO bb a n i ρ M = some (.nx, ρ', M) ∧ P ρ'
  | 0, i, ρ, h1, h2, p => by omega
  | n + 1, i, ρ, h1, h2, p => by
    unfold forO
    rw [hl]
    dsimp only
    by_cases hi : i < l.length
    · rw [List.getElem?_eq_getElem hi]
      dsimp only
      obtain ⟨ρ1, e1, p1⟩ := h _ (List.getElem_mem hi) ρ p
      rw [e1]
      exact forO_inv hl h n (i + 1) ρ1 (by omega) (by omega) p1
    · rw [List.getElem?_eq_none (by omega)]
      exact ⟨ρ, rfl, p⟩
theorem pure_ok {c : Call} {f : Nat} {ds : List D} {d : D} {M1 : MS} {r : SV} (h : c f (ds.map SV.d) [] = some (r, M1)) (hf : frz M1 8 r = some d) : anyC c false f (ds.map SV.d) M = some (.d d, M) := by
  show pureC c f (ds.map SV.d) M = _
  unfold pureC
  rw [allD_map]
  dsimp only
  rw [h]
  dsimp only
  rw [hf]
theorem pureMk_ok {k : Call} {c f : Nat} {ds : List D} {d : D} {M1 : MS} (h : k f (.ob 0 :: ds.map SV.d) [some (.ins c [])] = some (.d .non, M1)) (hf : frz M1 8 (.ob 0) = some d) : pureMk k c f (ds.map SV.d) M = some (.d d, M) := by
  unfold pureMk
  rw [allD_map]
  dsimp only
  rw [h]
  dsimp only
  rw [hf]
theorem callK_go {T : List Df} {k f : Nat} {df : Df} {xs : List SV} (h : T[f]? = some df) (hl : xs.length = df.np) : callK T (k + 1) f xs M = body (callK T k) df.ns df.b xs M := by
  unfold callK
  rw [h]
  dsimp only
  rw [if_pos hl]
theorem all_true {l : List D} (h : ∀ d ∈ l, d = .bl true) : evBi .all M [.d (.lst l)] = some (.d (.bl true), M) := by
  have e : l.mapM blD = some (l.map fun _ => true) := by
    induction l with
    | nil => rfl
    | cons d l ih =>
      rw [List.mapM_cons, ih fun x hx => h x (List.mem_cons_of_mem _ hx), h d List.mem_cons_self]
      rfl
  show (lstOf M (.d (.lst l))).bind (fun _ => (blsOf M (.d (.lst l))).bind fun l => ret (.bl (l.all id)) M) = _
  show ((allD (l.map SV.d)).bind fun l => l.mapM blD).bind (fun l => ret (.bl (l.all id)) M) = _
  rw [allD_map]
  dsimp only [Option.bind_some]
  rw [e]
  show ret (.bl ((l.map fun _ => true).all id)) M = _
  have : (l.map fun _ => true).all id = true := by
    rw [List.all_map]
    exact List.all_eq_true.mpr fun _ _ => rfl
  rw [this]; rfl
end
end EV

set_option autoImplicit false
/-! the draws of a law, over the machine -/
namespace EV
open PySem PySem.Spec PyProof.Rows L2 DL
section
variable {M : MS} {i j : Nat} {o u : MO}
theorem obj_lt (h : obj M i = some o) : i < M.length := (List.getElem?_eq_some_iff.mp (obj_eq h)).1
theorem obj_put (h : obj M i = some o) : obj (put M i u) i = some u := by
  unfold obj put
  rw [List.getElem?_set_self (obj_lt h)]
theorem obj_ne (h : i ≠ j) : obj (put M i u) j = obj M j := by
  unfold obj put
  rw [List.getElem?_set_ne h]
theorem put_len : (put M i u).length = M.length := by unfold put; rw [List.length_set]
theorem obj_new : obj (M ++ [some o]) M.length = some o := by
  unfold obj
  rw [List.getElem?_append_right (Nat.le_refl _)]; simp
theorem obj_old (h : i < M.length) : obj (M ++ [some o]) i = obj M i := by
  unfold obj
  rw [List.getElem?_append_left h]
end
theorem lstOf_ob {M : MS} {i : Nat} {l : List SV} (h : obj M i = some (.lst l)) : lstOf M (.ob i) = some l := by
  unfold lstOf; dsimp only; rw [h]
/-- all but the source, as far as it was there, is as it was -/
structure Kp (a q : Nat) (M M' : MS) : Prop where
  len : M.length ≤ M'.length
  get : ∀ i, i < M.length → i ≠ a → i ≠ q → obj M' i = obj M i
theorem Kp.refl {a q : Nat} {M : MS} : Kp a q M M := ⟨Nat.le_refl _, fun _ _ _ _ => rfl⟩
theorem Kp.trans {a q : Nat} {M M1 M2 : MS} (h : Kp a q M M1) (k : Kp a q M1 M2) : Kp a q M M2 :=
  ⟨Nat.le_trans h.len k.len, fun i hi h1 h2 => (k.get i (Nat.lt_of_lt_of_le hi h.len) h1 h2).trans (h.get i hi h1 h2)⟩
def intsV (l : List Int) : List SV := (l.map DL.D.int).map SV.d
structure Deal (a q : Nat) (M : MS) (cells : List Int) (m : Int) : Prop where
  ne : a ≠ q
  la : obj M a = some (.lst [.ob q, .d (.int m)])
  lq : obj M q = some (.lst (intsV cells))
  len : cells.length ≤ 63
  pos : ∀ c ∈ cells, 0 ≤ c
  mp : 0 ≤ m
def DealM (a q : Nat) (M : MS) : Prop := ∃ cells m, Deal a q M cells m
theorem pys_ints {M : MS} {n : Nat} : ∀ l : List Int, (intsV l).mapM (pyS M n) = some (l.map PyData.int)
  | [] => rfl
  | i :: l => by
    have ih := pys_ints (M := M) (n := n) l
    show ((SV.d (DL.D.int i)) :: intsV l).mapM (pyS M n) = _
    rw [List.mapM_cons, ih]
    cases n <;> rfl
theorem eq_nil {M : MS} {q : Nat} {cells : List Int} (h : obj M q = some (.lst (intsV cells))) : eqSV M (.ob q) (.d (.lst [])) = some cells.isEmpty := by
  have e1 : pyS M 4 (.ob q) = some (.list (cells.map PyData.int)) := by
    unfold pyS
    rw [h]
    dsimp only
    rw [pys_ints]; rfl
  show (match pyS M 4 (.ob q), pyS M 4 (.d (.lst [])) with
    | some p, some q => if SeqAt.shaped p && SeqAt.shaped q then some (PyData.eqv p q) else none
    | _, _ => none) = _
  rw [e1]
  show (if SeqAt.shaped (.list (cells.map PyData.int)) && SeqAt.shaped (.list []) then some (PyData.eqv (.list (cells.map PyData.int)) (.list [])) else none) = _
  rw [shaped_ints, eqv_ints_nil]
  rfl
def irDraw : IBs := .cons (.whl (.and (.val (.cmp .ne (.ix (.var 0) (.cst (.int 0))) (.lst false (.nil)))) (.val (.cmp .eq (.ix (.ix (.var 0) (.cst (.int 0))) (.neg (.cst (.int 1)))) (.cst (.int 0))))) (.cons (.expr (.bm .pop (.ix (.var 0) (.cst (.int 0))) .nil)) (.nil))) (.cons (.ife (.val (.cmp .ne (.ix (.var 0) (.cst (.int 0))) (.lst false (.nil)))) (.cons (.set 2 (.bm .pop (.ix (.var 0) (.cst (.int 0))) .nil)) (.cons (.expr (.bm .append (.ix (.var 0) (.cst (.int 0))) (.cons (.bin .fdiv (.var 2) (.var 1)) (.nil)))) (.cons (.ret (.bin .mod (.bi .int (.cons (.var 2) (.nil))) (.var 1))) (.nil)))) (.nil)) (.cons (.subS (.var 0) (.cst (.int 1)) (.bin .mod (.bi .int (.cons (.bin .add (.bin .mul (.ix (.var 0) (.cst (.int 1))) (.cst (.int 48271))) (.cst (.int 11))) (.nil))) (.cst (.int 2147483647)))) (.cons (.ret (.bin .mod (.bi .int (.cons (.bin .fdiv (.ix (.var 0) (.cst (.int 1))) (.cst (.int 8))) (.nil))) (.var 1))) (.nil))))
section
variable {c : Call} {a q : Nat} {M : MS} {cells : List Int} {m many : Int} {ρ : Rho}
theorem src (h : Deal a q M cells m) (h0 : ρ[0]? = some (some (.ob a))) : evE c (.ix (.var 0) (.cst (.int 0))) ρ M = some (.ob q, M) := by
  refine e_ix (e_var h0) e_cst ?_
  show (lstOf M (.ob a)).bind _ = _
  rw [lstOf_ob h.la]; rfl
theorem srcNum (h : Deal a q M cells m) (h0 : ρ[0]? = some (some (.ob a))) : evE c (.ix (.var 0) (.cst (.int 1))) ρ M = some (.d (.int m), M) := by
  refine e_ix (e_var h0) e_cst ?_
  show (lstOf M (.ob a)).bind _ = _
  rw [lstOf_ob h.la]; rfl
theorem srcNe (h : Deal a q M cells m) (h0 : ρ[0]? = some (some (.ob a))) : evE c (.cmp .ne (.ix (.var 0) (.cst (.int 0))) (.lst false (.nil))) ρ M = some (.d (.bl (!cells.isEmpty)), M) := by
  refine e_cmp (src h h0) (e_lst a_nil (by decide) rfl) ?_
  show (eqSV M (.ob q) (.d (.lst []))).map (!·) = _
  rw [eq_nil h.lq]; rfl
theorem atI_last {α : Type} {l : List α} {x : α} : atI (l ++ [x]) (-1) = some x := by
  refine atI_neg1 ?_
  simp
theorem intsV_app {l : List Int} {x : Int} : intsV (l ++ [x]) = intsV l ++ [.d (.int x)] := by
  unfold intsV; simp
theorem intsV_len {l : List Int} : (intsV l).length = l.length := by
  unfold intsV; simp
theorem srcLast {x : Int} (h : Deal a q M (cells ++ [x]) m) (h0 : ρ[0]? = some (some (.ob a))) : evE c (.cmp .eq (.ix (.ix (.var 0) (.cst (.int 0))) (.neg (.cst (.int 1)))) (.cst (.int 0))) ρ M = some (.d (.bl (decide (x = 0))), M) := by
  refine e_cmp (x := .d (.int x)) (e_ix (src h h0) (e_neg e_cst) ?_) e_cst rfl
  show ((lstOf M (.ob q)).bind fun l => (atI l (-1)).map fun v => (v, M)) = _
  rw [lstOf_ob h.lq, intsV_app]
  show ((atI (intsV cells ++ [.d (.int x)]) (-1)).map fun v => (v, M)) = _
  rw [atI_last]
  rfl
theorem popLast {l : List SV} {x : SV} (h : obj M q = some (.lst (l ++ [x]))) : evBm .pop M (.ob q) [] = some (x, put M q (.lst l)) := by
  show (match obj M q with
    | some (.lst l) => l[l.length - 1]?.map fun v => (v, put M q (.lst l.dropLast))
    | _ => none) = _
  rw [h]
  simp
theorem deal_pop {x : Int} (h : Deal a q M (cells ++ [x]) m) : Deal a q (put M q (.lst (intsV cells))) cells m :=
  ⟨h.ne, by rw [obj_ne (fun z => h.ne z.symm)]; exact h.la, obj_put h.lq, by have := h.len; simp at this; omega, fun c hc => h.pos c (List.mem_append_left _ hc), h.mp⟩
theorem kp_q {u : MO} : Kp a q M (put M q u) := ⟨by rw [put_len]; exact Nat.le_refl _, fun i _ _ h2 => obj_ne (fun z => h2 z.symm)⟩
theorem kp_a {u : MO} : Kp a q M (put M a u) := ⟨by rw [put_len]; exact Nat.le_refl _, fun i _ h1 _ => obj_ne (fun z => h1 z.symm)⟩
theorem bmOk_lst {m : Bm} {l : List SV} {i : Nat} (hm : bmK m = 0) (h : obj M i = some (.lst l)) : bmOk m M (.ob i) = true := by
  cases m <;> first | (cases hm; done) | (show (match obj M i with | some (.lst _) => true | _ => false) = true; rw [h])
theorem evPop {x : Int} (h : Deal a q M (cells ++ [x]) m) (h0 : ρ[0]? = some (some (.ob a))) : evE c (.bm .pop (.ix (.var 0) (.cst (.int 0))) .nil) ρ M = some (.d (.int x), put M q (.lst (intsV cells))) :=
  e_bm (src h h0) (bmOk_lst rfl h.lq) a_nil (popLast (by rw [← intsV_app]; exact h.lq))
def tDraw : IT := (.and (.val (.cmp .ne (.ix (.var 0) (.cst (.int 0))) (.lst false (.nil)))) (.val (.cmp .eq (.ix (.ix (.var 0) (.cst (.int 0))) (.neg (.cst (.int 1)))) (.cst (.int 0)))))
def bDraw : IBs := .cons (.expr (.bm .pop (.ix (.var 0) (.cst (.int 0))) .nil)) (.nil)
/-- the zeros at the end are dropped -/
theorem drop_zeros (h0 : ρ[0]? = some (some (.ob a))) : ∀ (n : Nat) (cells : List Int) (M : MS), cells.length ≤ n → Deal a q M cells m → ∃ M' cells', whl (fun ρ M => evT c tDraw ρ M) (fun ρ M => evB c bDraw ρ M) (n + 1) ρ M = some (.nx, ρ, M') ∧ Deal a q M' cells' m ∧ Kp a q M M' ∧ M'.length = M.length := by
  have nil : ∀ (n : Nat) (M : MS), Deal a q M [] m → ∃ M' cells', whl (fun ρ M => evT c tDraw ρ M) (fun ρ M => evB c bDraw ρ M) (n + 1) ρ M = some (.nx, ρ, M') ∧ Deal a q M' cells' m ∧ Kp a q M M' ∧ M'.length = M.length := fun n M h =>
    ⟨M, [], whl_end (t_and (t_bl (srcNe h h0)) rfl), h, Kp.refl, rfl⟩
  intro n
  induction n with
  | zero =>
    intro cells M hn h
    have e : cells = [] := List.length_eq_zero_iff.mp (by omega)
    subst e
    exact nil 0 M h
  | succ n ih =>
    intro cells M hn h
    rcases List.eq_nil_or_concat cells with e | ⟨l, x, e⟩
    · subst e
      exact nil (n + 1) M h
    · rw [List.concat_eq_append] at e
      subst e
      have ne : (!(l ++ [x]).isEmpty) = true := by cases l <;> rfl
      have t : evT c tDraw ρ M = some (decide (x = 0), M) := t_and (t_bl (srcNe h h0)) (by rw [ne, if_pos rfl]; exact t_bl (srcLast h h0))
      by_cases hx : x = 0
      · obtain ⟨M', cells', e1, e2, e3, e4⟩ := ih l (put M q (.lst (intsV l))) (by simp at hn; omega) (deal_pop h)
        exact ⟨M', cells', whl_go (by rw [t, decide_eq_true hx]) (b_nx (s_expr (evPop h h0)) b_nil) e1, e2, kp_q.trans e3, e4.trans put_len⟩
      · exact ⟨M, l ++ [x], whl_end (by rw [t, decide_eq_false hx]), h, Kp.refl, rfl⟩
theorem bi_int {i : Int} : evBi .int M [.d (.int i)] = some (.d (.int i), M) := rfl
theorem b_mod {i j : Int} (h : 0 < j) : evBin .mod M (.d (.int i)) (.d (.int j)) = some (.d (.int (i % j)), M) := by
  show (if 0 < j then ret (.int (i % j)) M else none) = _
  rw [if_pos h]; rfl
theorem b_fdiv {i j : Int} (h : 0 < j) (h2 : j < 1073741824) : evBin .fdiv M (.d (.int i)) (.d (.int j)) = some (.d (.int (i / j)), M) := by
  show (if 0 < j ∧ j < 1073741824 then ret (.int (i / j)) M else none) = _
  rw [if_pos ⟨h, h2⟩]; rfl
theorem b_mul {i j : Int} (h : small j = true) : evBin .mul M (.d (.int i)) (.d (.int j)) = some (.d (.int (i * j)), M) := by
  show (if small i || small j then ret (.int (i * j)) M else none) = _
  rw [h, Bool.or_true]; rfl
theorem b_mul2 {i j : Int} (h : small i = true) : evBin .mul M (.d (.int i)) (.d (.int j)) = some (.d (.int (i * j)), M) := by
  show (if small i || small j then ret (.int (i * j)) M else none) = _
  rw [h, Bool.true_or]; rfl
theorem draw_ok (h : Deal a q M cells m) (hm : 0 < many) (hm2 : many < 1073741824) : ∃ r M', body c 3 irDraw [.ob a, .d (.int many)] M = some (.d (.int r), M') ∧ 0 ≤ r ∧ r < many ∧ DealM a q M' ∧ Kp a q M M' ∧ M'.length = M.length := by
  let ρ : Rho := [some (.ob a), some (.d (.int many)), none]
  have h0 : ρ[0]? = some (some (.ob a)) := rfl
  have hs : startD (List.replicate 3 ("" : Str)) [.ob a, .d (.int many)] = ρ := rfl
  obtain ⟨M1, cells1, e1, h1, k1, l1⟩ := drop_zeros (c := c) h0 999 cells M (by have := h.len; omega) h
  have s1 : evS c (.whl tDraw bDraw) ρ M = some (.nx, ρ, M1) := s_whl e1
  rcases List.eq_nil_or_concat cells1 with e | ⟨l, x, e⟩
  · subst e
    let m2 : Int := (m * 48271 + 11) % 2147483647
    have hm2p : 0 ≤ m2 := Int.emod_nonneg _ (by decide)
    let M2 := put M1 a (.lst [.ob q, .d (.int m2)])
    have h2 : Deal a q M2 [] m2 := ⟨h1.ne, obj_put h1.la, by rw [obj_ne h1.ne]; exact h1.lq, by simp, by simp, hm2p⟩
    refine ⟨(m2 / 8) % many, M2, body_rt hs (b_nx s1 (b_nx (s_if (t_bl (srcNe h1 h0)) (b_nil (c := c))) (b_nx (ρ1 := ρ) (M1 := M2) ?_ (b_rt (s_ret (e_bin (e_bi (a_cons (e_bin (srcNum h2 h0) e_cst (b_fdiv (by decide) (by decide))) a_nil) bi_int) (e_var rfl) (b_mod hm))))))), Int.emod_nonneg _ (by omega), Int.emod_lt_of_pos _ hm, ⟨[], m2, h2⟩, k1.trans kp_a, put_len.trans l1⟩
    exact s_sub (l := [.ob q, .d (.int m)]) (x := .d (.int m2)) (w := 1) (k := 1) (e_bin (e_bi (a_cons (e_bin (e_bin (srcNum h1 h0) e_cst (b_mul (j := 48271) (by decide))) e_cst rfl) a_nil) bi_int) e_cst (b_mod (by decide))) (e_var h0) e_cst h1.la rfl
  · rw [List.concat_eq_append] at e
    subst e
    have ne : (!(l ++ [x]).isEmpty) = true := by cases l <;> rfl
    have hx : 0 ≤ x := h1.pos x (by simp)
    have h2 := deal_pop h1
    let M2 := put M1 q (.lst (intsV l))
    let ρ2 : Rho := [some (.ob a), some (.d (.int many)), some (.d (.int x))]
    let M3 := put M2 q (.lst (intsV (l ++ [x / many])))
    have h3 : Deal a q M3 (l ++ [x / many]) m := ⟨h1.ne, by rw [obj_ne (fun z => h1.ne z.symm)]; exact h2.la, obj_put h2.lq, by have := h1.len; simp at this ⊢; exact this, fun c hc => by
      rcases List.mem_append.mp hc with hc | hc
      · exact h2.pos c hc
      · rw [List.mem_singleton.mp hc]; exact Int.ediv_nonneg hx (by omega), h1.mp⟩
    refine ⟨x % many, M3, body_rt hs (b_nx s1 (b_rt (ρ1 := ρ2) (s_if (t_bl (srcNe h1 h0)) ?_))), Int.emod_nonneg _ (by omega), Int.emod_lt_of_pos _ hm, ⟨_, m, h3⟩, (k1.trans kp_q).trans kp_q, (put_len.trans put_len).trans l1⟩
    rw [ne, if_pos rfl]
    refine b_nx (s_set (evPop h1 h0)) (b_nx (s_expr (M1 := M3) (x := .d .non) (e_bm (src h2 (ρ := ρ2) rfl) (bmOk_lst rfl h2.lq) (a_cons (e_bin (e_var rfl) (e_var rfl) (b_fdiv hm hm2)) a_nil) ?_)) (b_rt (s_ret (e_bin (e_bi (a_cons (e_var (ρ := ρ2) rfl) a_nil) bi_int) (e_var rfl) (b_mod hm)))))
    show (match obj M2 q with
      | some (.lst l) => if l.length < 100000 then some (SV.d .non, put M2 q (.lst (l ++ [SV.d (.int (x / many))]))) else none
      | _ => none) = _
    rw [h2.lq]
    dsimp only
    rw [if_pos (by rw [intsV_len]; have := h2.len; omega)]
    show _ = some (SV.d DL.D.non, put M2 q (.lst (intsV (l ++ [x / many]))))
    rw [intsV_app]
end
/-! ### comprehensions that change nothing -/
section
variable {b : SV → MS → Option (Option SV × MS)} {M : MS}
theorem lcL_map {f : SV → SV} : ∀ {l : List SV} {ys : List SV}, (∀ x ∈ l, b x M = some (some (f x), M)) → lcL b l ys M = some (ys ++ l.map f, M)
  | [], ys, _ => by unfold lcL; simp
  | x :: l, ys, h => by
    unfold lcL
    rw [h x List.mem_cons_self]
    dsimp only
    rw [lcL_map fun y hy => h y (List.mem_cons_of_mem _ hy)]
    simp
theorem lcL_filter {p : SV → Bool} : ∀ {l : List SV} {ys : List SV}, (∀ x ∈ l, b x M = some (if p x then some x else none, M)) → lcL b l ys M = some (ys ++ l.filter p, M)
  | [], ys, _ => by unfold lcL; simp
  | x :: l, ys, h => by
    unfold lcL
    rw [h x List.mem_cons_self]
    cases e : p x with
    | true =>
      rw [if_pos rfl]
      dsimp only
      rw [lcL_filter fun y hy => h y (List.mem_cons_of_mem _ hy), List.filter_cons_of_pos e]
      simp
    | false =>
      rw [if_neg (by decide)]
      dsimp only
      rw [lcL_filter fun y hy => h y (List.mem_cons_of_mem _ hy), List.filter_cons_of_neg (by rw [e]; decide)]
end
section
variable {c : Call} {M : MS} {x0 x1 x2 x3 : SV}
/-! ### the source is laid -/
def irDeal : IBs := .cons (.set 2 (.lc false [4] (.nm 4) (.seq (.slc (.var 0) (.at (.var 1)) (.at (.cst (.int 60))))) (.tt) (.bi .abs (.cons (.var 4) (.nil))))) (.cons (.set 3 (.bin .add (.cst (.int 36195017)) (.bin .mul (.cst (.int 43)) (.var 1)))) (.cons (.forr (.nm 4) (.seq (.var 2)) (.cons (.set 3 (.bin .mod (.bi .int (.cons (.bin .add (.bin .mul (.var 3) (.cst (.int 16807))) (.bin .mod (.bi .int (.cons (.var 4) (.nil))) (.cst (.int 2147483629)))) (.nil))) (.cst (.int 2147483647)))) (.nil))) (.cons (.ret (.lst true (.cons (.rev (.lc false [4] (.nm 4) (.seq (.var 2)) (.val (.cmp .ge (.var 4) (.bin .pow (.cst (.int 10)) (.cst (.int 18))))) (.var 4))) (.cons (.var 3) (.nil))))) (.nil))))
def absI (i : Int) : Int := if i < 0 then -i else i
theorem absI_nn (i : Int) : 0 ≤ absI i := by unfold absI; split <;> omega
def bMix : IBs := .cons (.set 3 (.bin .mod (.bi .int (.cons (.bin .add (.bin .mul (.var 3) (.cst (.int 16807))) (.bin .mod (.bi .int (.cons (.var 4) (.nil))) (.cst (.int 2147483629)))) (.nil))) (.cst (.int 2147483647)))) (.nil)
theorem mix_run : ∀ (l : List Int) (m : Int) (o4 : Option SV), 0 ≤ m → ∃ m' o4', forL (forB c (.nm 4) bMix) (intsV l) [some x0, some x1, some x2, some (.d (.int m)), o4] M = some (.nx, [some x0, some x1, some x2, some (.d (.int m')), o4'], M) ∧ 0 ≤ m'
  | [], m, o4, h => ⟨m, o4, rfl, h⟩
  | x :: l, m, o4, h => by
    obtain ⟨m', o4', e, h'⟩ := mix_run l ((m * 16807 + x % 2147483629) % 2147483647) (some (.d (.int x))) (Int.emod_nonneg _ (by decide))
    refine ⟨m', o4', for_go (ρ1 := [some x0, some x1, some x2, some (.d (.int ((m * 16807 + x % 2147483629) % 2147483647))), some (.d (.int x))]) (M1 := M) ?_ e, h'⟩
    show evB c bMix [some x0, some x1, some x2, some (.d (.int m)), some (.d (.int x))] M = _
    exact b_nx (s_set (e_bin (e_bi (a_cons (e_bin (e_bin (e_var rfl) e_cst (b_mul (j := 16807) (by decide))) (e_bin (e_bi (a_cons (e_var rfl) a_nil) bi_int) e_cst (b_mod (by decide))) rfl) a_nil) bi_int) e_cst (b_mod (by decide)))) b_nil
def lcA (cl : Call) (ρ : Rho) := lcB cl [4] (.nm 4) .tt (.bi .abs (.cons (.var 4) (.nil))) ρ
theorem deal_ok {ns : List Int} {base : Int} (hn : ns.length ≤ 63) (hb : 0 ≤ base ∧ base ≤ 60) : ∃ M', body c 5 irDeal [.d (.fl (ns.map DL.D.int)), .d (.int base)] M = some (.ob (M.length + 1), M') ∧ DealM (M.length + 1) M.length M' ∧ (∀ i, i < M.length → obj M' i = obj M i) ∧ M'.length = M.length + 2 := by
  let s0 : SV := .d (.fl (ns.map DL.D.int))
  let s1 : SV := .d (.int base)
  let cs := cutL ns (some base) (some 60)
  have hcs : cutL (ns.map DL.D.int) (some base) (some 60) = cs.map DL.D.int := by
    show cutL (ns.map DL.D.int) (some base) (some 60) = (cutL ns (some base) (some 60)).map DL.D.int
    unfold cutL; rw [List.length_map, List.map_take, List.map_drop]
  have hcl : cs.length ≤ 63 := by
    show (cutL ns (some base) (some 60)).length ≤ 63
    unfold cutL; rw [List.length_take, List.length_drop]; omega
  let ab := cs.map absI
  have h1 : evE c (.lc false [4] (.nm 4) (.seq (.slc (.var 0) (.at (.var 1)) (.at (.cst (.int 60))))) (.tt) (.bi .abs (.cons (.var 4) (.nil)))) [some s0, some s1, none, none, none] M = some (.d (.lst (ab.map DL.D.int)), M) := by
    refine e_lc (l := intsV cs) (ys := intsV ab) (M1 := M) (M2 := M) (i_seq (d := .lst (cs.map DL.D.int)) (e_slc (e_var (v := s0) rfl) (o_at (e_var rfl)) (o_at e_cst) ?_) rfl) (by rw [intsV_len]; omega) ?_ ?_
    · show ((lstOf M s0).bind allD).bind (fun l => ret (.lst (cutL l (some base) (some 60))) M) = _
      show (allD ((ns.map DL.D.int).map SV.d)).bind (fun l => ret (.lst (cutL l (some base) (some 60))) M) = _
      rw [allD_map]
      show ret (.lst (cutL (ns.map DL.D.int) (some base) (some 60))) M = _
      rw [hcs]; rfl
    · have := lcL_map (b := lcB c [4] (.nm 4) .tt (.bi .abs (.cons (.var 4) (.nil))) [some s0, some s1, none, none, none]) (M := M) (f := fun v => match v with | .d (.int i) => .d (.int (absI i)) | v => v) (l := intsV cs) (ys := []) (fun x hx => by
        unfold intsV at hx
        rw [List.map_map] at hx
        obtain ⟨i, _, rfl⟩ := List.mem_map.mp hx
        exact lcb_yes (ρ1 := [some s0, some s1, none, none, some (.d (.int i))]) rfl t_tt (e_bi (a_cons (e_var rfl) a_nil) (show evBi .abs M [.d (.int i)] = some (.d (.int (absI i)), M) from rfl)))
      rw [this, List.nil_append]
      congr 1
      unfold intsV
      show ((((cs.map DL.D.int).map SV.d).map _), M) = (((cs.map absI).map DL.D.int).map SV.d, M)
      rw [List.map_map, List.map_map, List.map_map, List.map_map]
      rfl
    · show (allD ((ab.map DL.D.int).map SV.d)).bind (fun l => ret (.lst l) M) = _
      rw [allD_map]; rfl
  obtain ⟨m', o4, h3, hm⟩ := mix_run (c := c) (M := M) (x0 := s0) (x1 := s1) (x2 := .d (.lst (ab.map DL.D.int))) ab (36195017 + 43 * base) none (by omega)
  let big := ab.filter fun i => decide (i ≥ 10 ^ 18)
  have h4 : evE c (.lc false [4] (.nm 4) (.seq (.var 2)) (.val (.cmp .ge (.var 4) (.bin .pow (.cst (.int 10)) (.cst (.int 18))))) (.var 4)) [some s0, some s1, some (.d (.lst (ab.map DL.D.int))), some (.d (.int m')), o4] M = some (.d (.lst (big.map DL.D.int)), M) := by
    refine e_lc (l := intsV ab) (ys := intsV big) (M1 := M) (M2 := M) (i_seq (d := .lst (ab.map DL.D.int)) (e_var rfl) rfl) (by rw [intsV_len, List.length_map]; omega) ?_ ?_
    · have := lcL_filter (b := lcB c [4] (.nm 4) (.val (.cmp .ge (.var 4) (.bin .pow (.cst (.int 10)) (.cst (.int 18))))) (.var 4) [some s0, some s1, some (.d (.lst (ab.map DL.D.int))), some (.d (.int m')), o4]) (M := M) (p := fun v => match v with | .d (.int i) => decide (i ≥ 10 ^ 18) | _ => false) (l := intsV ab) (ys := []) (fun x hx => by
        unfold intsV at hx
        rw [List.map_map] at hx
        obtain ⟨i, _, rfl⟩ := List.mem_map.mp hx
        have ht : evT c (.val (.cmp .ge (.var 4) (.bin .pow (.cst (.int 10)) (.cst (.int 18))))) [some s0, some s1, some (.d (.lst (ab.map DL.D.int))), some (.d (.int m')), some (.d (.int i))] M = some (decide (i ≥ 10 ^ 18), M) := t_bl (e_cmp (x := .d (.int i)) (y := .d (.int (10 ^ 18))) (M2 := M) (e_var rfl) (e_bin e_cst e_cst rfl) rfl)
        show _ = some (if decide (i ≥ 10 ^ 18) = true then some (SV.d (.int i)) else none, M)
        cases hh : decide (i ≥ 10 ^ 18) with
        | true => rw [hh] at ht; exact lcb_yes (ρ1 := [some s0, some s1, some (.d (.lst (ab.map DL.D.int))), some (.d (.int m')), some (.d (.int i))]) rfl ht (e_var rfl)
        | false => rw [hh] at ht; exact lcb_no (ρ1 := [some s0, some s1, some (.d (.lst (ab.map DL.D.int))), some (.d (.int m')), some (.d (.int i))]) rfl ht)
      rw [this, List.nil_append]
      congr 1
      unfold intsV
      show (List.filter _ ((ab.map DL.D.int).map SV.d), M) = (((ab.filter _).map DL.D.int).map SV.d, M)
      rw [List.map_map, List.filter_map, List.map_map]
      rfl
    · show (allD ((big.map DL.D.int).map SV.d)).bind (fun l => ret (.lst l) M) = _
      rw [allD_map]; rfl
  let M1 : MS := M ++ [some (.lst (intsV big.reverse))]
  have hM1 : M1.length = M.length + 1 := by show (M ++ [_]).length = _; simp
  let M2 : MS := M1 ++ [some (.lst [.ob M.length, .d (.int m')])]
  have h5 : evE c (.rev (.lc false [4] (.nm 4) (.seq (.var 2)) (.val (.cmp .ge (.var 4) (.bin .pow (.cst (.int 10)) (.cst (.int 18))))) (.var 4))) [some s0, some s1, some (.d (.lst (ab.map DL.D.int))), some (.d (.int m')), o4] M = some (.ob M.length, M1) := by
    rw [e_rev h4 (l := intsV big) rfl]
    show some (SV.ob M.length, M ++ [some (MO.lst (intsV big).reverse)]) = some (SV.ob M.length, M ++ [some (.lst (intsV big.reverse))])
    unfold intsV
    rw [List.map_reverse, List.map_reverse]
  have old : ∀ i, i < M.length → obj M2 i = obj M i := fun i hi => by
    show obj (M1 ++ [_]) i = _
    rw [obj_old (by omega)]
    exact obj_old hi
  refine ⟨M2, ?_, ⟨big.reverse, m', ?_⟩, old, by show (M1 ++ [_]).length = _; rw [List.length_append, hM1]; rfl⟩
  · refine body_rt (ρ := [some s0, some s1, none, none, none]) rfl (b_nx (s_set h1) (b_nx (s_set (e_bin e_cst (e_bin e_cst (e_var (v := s1) rfl) (b_mul2 (i := 43) (by decide))) rfl)) (b_nx (s_for (l := intsV ab) (i_seq (d := .lst (ab.map DL.D.int)) (e_var rfl) rfl) h3) (b_rt (s_ret ?_)))))
    rw [e_lstO (xs := [.ob M.length, .d (.int m')]) (a_cons h5 (a_cons (e_var rfl) a_nil)) (by show 2 ≤ 1000; decide), hM1]
  · refine ⟨by omega, ?_, ?_, ?_, ?_, hm⟩
    · show obj (M1 ++ [some (.lst [.ob M.length, .d (.int m')])]) (M.length + 1) = _
      rw [← hM1]; exact obj_new
    · show obj (M1 ++ [_]) M.length = _
      rw [obj_old (by omega)]; exact obj_new
    · have : big.length ≤ ab.length := List.length_filter_le _ _
      rw [List.length_reverse]
      have : ab.length = cs.length := List.length_map ..
      omega
    · intro x hx
      have hx := (List.mem_filter.mp (List.mem_reverse.mp hx)).1
      obtain ⟨y, _, rfl⟩ := List.mem_map.mp hx
      exact absI_nn y
end
end EV

set_option autoImplicit false
/-! a mixed list, a picked item -/
namespace EV
open PySem PySem.Spec PyProof.Rows L2 DL
def DrawsAt (c : Call) (f : Nat) : Prop := ∀ (a q : Nat) (M : MS) (many : Int), DealM a q M → 0 < many → many < 1073741824 → ∃ r M', c f [.ob a, .d (.int many)] M = some (.d (.int r), M') ∧ 0 ≤ r ∧ r < many ∧ DealM a q M' ∧ Kp a q M M'
def bMixed (f : Nat) : IBs := .cons (.expr (.bm .append (.var 3) (.cons (.bm .popAt (.var 2) (.cons (.call f [] true (.cons (.var 0) (.cons (.bi .len (.cons (.var 2) (.nil))) (.nil)))) (.nil))) (.nil)))) (.nil)
def irMixed (f : Nat) : IBs := .cons (.par 2 3 (.bi .list (.cons (.var 1) (.nil))) (.lst true (.nil))) (.cons (.forr (.nm 4) (.rng (.bi .len (.cons (.var 2) (.nil)))) (bMixed f)) (.cons (.ret (.var 3)) (.nil)))
theorem len_ob {M : MS} {i : Nat} {l : List SV} (h : obj M i = some (.lst l)) : evBi .len M [.ob i] = some (.d (.int l.length), M) := by
  show (match obj M i with
    | some (.lst l) => ret (.int l.length) M
    | _ => none) = _
  rw [h]; rfl
theorem app_ob {M : MS} {i : Nat} {l : List SV} {v : SV} (h : obj M i = some (.lst l)) (hl : l.length < 100000) : evBm .append M (.ob i) [v] = some (.d .non, put M i (.lst (l ++ [v]))) := by
  show (match obj M i with
    | some (.lst l) => if l.length < 100000 then some (SV.d .non, put M i (.lst (l ++ [v]))) else none
    | _ => none) = _
  rw [h]
  dsimp only
  rw [if_pos hl]
theorem popAt_ob {M : MS} {i : Nat} {l : List SV} {z : Int} (h : obj M i = some (.lst l)) (h0 : 0 ≤ z) (h1 : z < l.length) (hl : l.length < 100000) : ∃ v, l[z.toNat]? = some v ∧ evBm .popAt M (.ob i) [.d (.int z)] = some (v, put M i (.lst (l.eraseIdx z.toNat))) := by
  have hz : z.toNat < l.length := by omega
  refine ⟨l[z.toNat], by rw [List.getElem?_eq_getElem hz], ?_⟩
  show (match obj M i with
    | some (.lst l) => if -9223372036854775808 ≤ z ∧ z < 9223372036854775808 then (seqIndex? z l.length).bind fun j => l[j]?.map fun v => (v, put M i (.lst (l.eraseIdx j))) else none
    | _ => none) = _
  rw [h]
  dsimp only
  rw [if_pos ⟨by omega, by omega⟩]
  have e : seqIndex? z l.length = some z.toNat := by
    have hz0 : ¬ z < 0 := by omega
    unfold seqIndex?
    simp only [hz0, if_false]
    simp [h0, h1]
  rw [e]
  dsimp only [Option.bind_some]
  rw [List.getElem?_eq_getElem hz]
  rfl
theorem perm_erase {α : Type} {l : List α} {n : Nat} {v : α} (h : l[n]? = some v) : (v :: l.eraseIdx n).Perm l := by
  induction l generalizing n with
  | nil => simp at h
  | cons x l ih =>
    cases n with
    | zero => simp at h; subst h; exact List.Perm.refl _
    | succ n =>
      have h' : l[n]? = some v := by simpa using h
      show (v :: x :: l.eraseIdx n).Perm _
      exact (List.Perm.swap x v _).trans ((ih h').cons x)
section
variable {c : Call} {f a q p1 p2 : Nat} {s1 : SV}
theorem mix_loop (hd : DrawsAt c f) (hp : p1 ≠ p2) (n1 : p1 ≠ a) (n2 : p1 ≠ q) (n3 : p2 ≠ a) (n4 : p2 ≠ q) : ∀ (items : List SV) (rest found : List SV) (M : MS) (o4 : Option SV), rest.length = items.length → obj M p1 = some (.lst rest) → obj M p2 = some (.lst found) → DealM a q M → found.length + rest.length ≤ 1000 →
    ∃ M' found' o4', forL (forB c (.nm 4) (bMixed f)) items [some (.ob a), some s1, some (.ob p1), some (.ob p2), o4] M = some (.nx, [some (.ob a), some s1, some (.ob p1), some (.ob p2), o4'], M') ∧ obj M' p2 = some (.lst found') ∧ found'.Perm (found ++ rest) ∧ DealM a q M' ∧ (∀ i, i < M.length → i ≠ a → i ≠ q → i ≠ p1 → i ≠ p2 → obj M' i = obj M i) ∧ M.length ≤ M'.length
  | [], rest, found, M, o4, hl, h1, h2, h3, h4 => by
    have e : rest = [] := List.length_eq_zero_iff.mp hl
    subst e
    exact ⟨M, found, o4, rfl, h2, by simp, h3, fun _ _ _ _ _ _ => rfl, Nat.le_refl _⟩
  | x :: items, rest, found, M, o4, hl, h1, h2, h3, h4 => by
    have hpos : 0 < rest.length := by rw [hl]; simp
    obtain ⟨r, M1, e1, r0, r1, d1, k1⟩ := hd a q M rest.length h3 (by omega) (by omega)
    have o1 : obj M1 p1 = some (.lst rest) := by rw [k1.get p1 (obj_lt h1) n1 n2]; exact h1
    have o2 : obj M1 p2 = some (.lst found) := by rw [k1.get p2 (obj_lt h2) n3 n4]; exact h2
    obtain ⟨v, hv, ev⟩ := popAt_ob o1 r0 r1 (by omega)
    have o3 : obj (put M1 p1 (.lst (rest.eraseIdx r.toNat))) p2 = some (.lst found) := by rw [obj_ne hp]; exact o2
    let M2 := put M1 p1 (.lst (rest.eraseIdx r.toNat))
    let M3 := put M2 p2 (.lst (found ++ [v]))
    have hr : r.toNat < rest.length := by omega
    have hle : (rest.eraseIdx r.toNat).length = items.length := by
      rw [List.length_eraseIdx, if_pos hr, hl]; simp
    obtain ⟨cells, m, dd⟩ := d1
    have d3 : DealM a q M3 := ⟨cells, m, dd.ne, by rw [obj_ne n3, obj_ne n1]; exact dd.la, by rw [obj_ne n4, obj_ne n2]; exact dd.lq, dd.len, dd.pos, dd.mp⟩
    have l2 : M2.length = M1.length := put_len
    have l3 : M3.length = M1.length := put_len.trans l2
    obtain ⟨M', found', o4', e5, e6, e7, e8, e9, e10⟩ := mix_loop hd hp n1 n2 n3 n4 items (rest.eraseIdx r.toNat) (found ++ [v]) M3 (some x) hle (by rw [obj_ne hp.symm]; exact obj_put o1) (obj_put o3) d3 (by rw [hle, List.length_append]; rw [hl] at h4; simp at h4 ⊢; omega)
    refine ⟨M', found', o4', for_go (ρ1 := [some (.ob a), some s1, some (.ob p1), some (.ob p2), some x]) (M1 := M3) ?_ e5, e6, e7.trans ?_, e8, fun i hi a1 a2 a3 a4 => ?_, by have := k1.len; omega⟩
    · show evB c (bMixed f) [some (.ob a), some s1, some (.ob p1), some (.ob p2), some x] M = _
      exact b_nx (s_expr (x := .d .non) (e_bm (e_var rfl) (bmOk_lst rfl h2) (a_cons (e_bm (e_var rfl) (bmOk_lst rfl h1) (a_cons (e_call (a_cons (e_var rfl) (a_cons (e_bi (a_cons (e_var rfl) a_nil) (len_ob h1)) a_nil)) (show anyC c true f ([.ob a, .d (.int rest.length)] ++ ([] : List DL.D).map SV.d) M = _ from e1)) a_nil) ev) a_nil) (app_ob o3 (by omega)))) b_nil
    · rw [List.append_assoc]
      exact List.Perm.append_left found (perm_erase hv)
    · rw [e9 i (by have := k1.len; omega) a1 a2 a3 a4]
      show obj (put M2 p2 _) i = _
      rw [obj_ne (fun z => a4 z.symm)]
      show obj (put M1 p1 _) i = _
      rw [obj_ne (fun z => a3 z.symm)]
      exact k1.get i hi a1 a2
theorem mixed_ok {M : MS} {l : List SV} (hd : DrawsAt c f) (h3 : DealM a q M) (hl : seqOf M s1 = some l) (hn : l.length ≤ 1000) : ∃ M' l', body c 5 (irMixed f) [.ob a, s1] M = some (.ob (M.length + 1), M') ∧ obj M' (M.length + 1) = some (.lst l') ∧ l'.Perm l ∧ DealM a q M' ∧ Kp a q M M' ∧ M.length + 2 ≤ M'.length := by
  obtain ⟨cells, m, dd⟩ := h3
  have la := obj_lt dd.la
  have lq := obj_lt dd.lq
  let M1 : MS := M ++ [some (.lst l)]
  have hM1 : M1.length = M.length + 1 := by show (M ++ [_]).length = _; simp
  let M2 : MS := M1 ++ [some (.lst [])]
  have hM2 : M2.length = M.length + 2 := by show (M1 ++ [_]).length = _; rw [List.length_append, hM1]; rfl
  have o1 : obj M2 M.length = some (.lst l) := by
    show obj (M1 ++ [_]) M.length = _
    rw [obj_old (by omega)]; exact obj_new
  have o2 : obj M2 (M.length + 1) = some (.lst []) := by
    show obj (M1 ++ [some (.lst [])]) (M.length + 1) = _
    rw [← hM1]; exact obj_new
  have old : ∀ i, i < M.length → obj M2 i = obj M i := fun i hi => by
    show obj (M1 ++ [_]) i = _
    rw [obj_old (by omega)]
    exact obj_old hi
  have d2 : DealM a q M2 := ⟨cells, m, dd.ne, by rw [old a la]; exact dd.la, by rw [old q lq]; exact dd.lq, dd.len, dd.pos, dd.mp⟩
  obtain ⟨M', l', o4', e5, e6, e7, e8, e9, e10⟩ := mix_loop (s1 := s1) hd (by omega) (by omega) (by omega) (by omega) (by omega) ((List.range l.length).map fun (i : Nat) => SV.d (.int (i : Int))) l [] M2 none (by simp) o1 o2 d2 (by simpa using hn)
  refine ⟨M', l', ?_, e6, by simpa using e7, e8, ⟨by omega, fun i hi a1 a2 => by rw [e9 i (by omega) a1 a2 (by omega) (by omega)]; exact old i hi⟩, by omega⟩
  refine body_rt (ρ := [some (.ob a), some s1, none, none, none]) rfl (b_nx (s_par (x := .ob M.length) (M1 := M1) (y := .ob (M.length + 1)) (M2 := M2) (e_bi (a_cons (e_var rfl) a_nil) ?_) ?_) (b_nx (s_for (l := (List.range l.length).map fun (i : Nat) => SV.d (.int (i : Int))) (i_rng (n := l.length) (e_bi (a_cons (e_var rfl) a_nil) (len_ob o1)) ⟨by omega, by omega⟩) e5) (b_rt (s_ret (e_var rfl)))))
  · show (seqOf M s1).bind (fun l => EV.new M (.lst l)) = _
    rw [hl]; rfl
  · rw [e_lstO a_nil (by show 0 ≤ 1000; omega), hM1]
theorem deal_more {a q : Nat} {M : MS} {z : Option MO} (h : DealM a q M) : DealM a q (M ++ [z]) := by
  obtain ⟨cells, m, d⟩ := h
  have old : ∀ {i : Nat} {o : MO}, obj M i = some o → obj (M ++ [z]) i = some o := fun {i o} e => by
    have lt := obj_lt e
    have q := obj_eq e
    refine obj_mk ?_
    rw [List.getElem?_append_left lt]; exact q
  exact ⟨cells, m, d.ne, old d.la, old d.lq, d.len, d.pos, d.mp⟩
/-- the draws' def -/
theorem draws_at {T : List Df} {k : Nat} (h : T[f]? = some ⟨2, 3, irDraw⟩) : DrawsAt (callK T (k + 1)) f := fun a q M many ⟨cells, m, d⟩ h0 h1 => by
  obtain ⟨r, M', e, h2, h3, h4, h5, _⟩ := draw_ok (c := callK T k) d h0 h1
  refine ⟨r, M', ?_, h2, h3, h4, h5⟩
  unfold callK
  rw [h]
  dsimp only
  rw [if_pos (by rfl)]
  exact e
/-- the same, and that nothing is made -/
def DrawsL (c : Call) (f : Nat) : Prop := ∀ (a q : Nat) (M : MS) (many : Int), DealM a q M → 0 < many → many < 1073741824 → ∃ r M', c f [.ob a, .d (.int many)] M = some (.d (.int r), M') ∧ 0 ≤ r ∧ r < many ∧ DealM a q M' ∧ Kp a q M M' ∧ M'.length = M.length
theorem draws_len {T : List Df} {k : Nat} (h : T[f]? = some ⟨2, 3, irDraw⟩) : DrawsL (callK T (k + 1)) f := fun a q M many ⟨cells, m, d⟩ h0 h1 => by
  obtain ⟨r, M', e, hs⟩ := draw_ok (c := callK T k) d h0 h1
  refine ⟨r, M', ?_, hs⟩
  unfold callK
  rw [h]
  dsimp only
  rw [if_pos (by rfl)]
  exact e
def irPick (f : Nat) : IBs := .cons (.ret (.ix (.var 1) (.call f [] true (.cons (.var 0) (.cons (.bi .len (.cons (.var 1) (.nil))) (.nil)))))) (.nil)
theorem ix_lst {M : MS} {l : List D} {z : Int} (h0 : 0 ≤ z) (h1 : z < l.length) : ∃ d, l[z.toNat]? = some d ∧ evIx M (.d (.lst l)) (.d (.int z)) = some (.d d, M) := by
  have hz : z.toNat < l.length := by omega
  refine ⟨l[z.toNat], by rw [List.getElem?_eq_getElem hz], ?_⟩
  show (lstOf M (.d (.lst l))).bind (fun l => (atI l z).map fun v => (v, M)) = _
  show (atI (l.map SV.d) z).map (fun v => (v, M)) = _
  have e : atI (l.map SV.d) z = some (.d l[z.toNat]) := by
    unfold atI ixN
    rw [if_pos h0]
    rw [if_pos (by rw [List.length_map]; omega)]
    simp [hz]
  rw [e]; rfl
theorem pick_ok {M : MS} {l : List D} (hd : DrawsAt c f) (h3 : DealM a q M) (hl : 0 < l.length) (hn : l.length ≤ 1000) : ∃ M' d, body c 2 (irPick f) [.ob a, .d (.lst l)] M = some (.d d, M') ∧ d ∈ l ∧ DealM a q M' ∧ Kp a q M M' := by
  obtain ⟨r, M1, e1, r0, r1, d1, k1⟩ := hd a q M l.length h3 (by omega) (by omega)
  obtain ⟨d, h1, h2⟩ := ix_lst (M := M1) (l := l) r0 (by omega)
  have el : evBi .len M [.d (.lst l)] = some (.d (.int l.length), M) := by
    show (seqOf M (.d (.lst l))).bind (fun l => ret (.int l.length) M) = _
    show ret (.int (l.map SV.d).length) M = _
    rw [List.length_map]; rfl
  exact ⟨M1, d, body_rt (ρ := [some (.ob a), some (.d (.lst l))]) rfl (b_rt (s_ret (e_ix (e_var rfl) (e_call (a_cons (e_var rfl) (a_cons (e_bi (a_cons (e_var rfl) a_nil) el) a_nil)) (show anyC c true f ([.ob a, .d (.int l.length)] ++ ([] : List DL.D).map SV.d) M = _ from e1)) h2))), List.mem_of_getElem? h1, d1, k1⟩
theorem pick_len {M : MS} {l : List D} (hd : DrawsL c f) (h3 : DealM a q M) (hl : 0 < l.length) (hn : l.length ≤ 1000) : ∃ M' d, body c 2 (irPick f) [.ob a, .d (.lst l)] M = some (.d d, M') ∧ d ∈ l ∧ DealM a q M' ∧ Kp a q M M' ∧ M'.length = M.length := by
  obtain ⟨r, M1, e1, r0, r1, d1, k1, l1⟩ := hd a q M l.length h3 (by omega) (by omega)
  obtain ⟨d, h1, h2⟩ := ix_lst (M := M1) (l := l) r0 (by omega)
  have el : evBi .len M [.d (.lst l)] = some (.d (.int l.length), M) := by
    show ret (.int (l.map SV.d).length) M = _
    rw [List.length_map]; rfl
  exact ⟨M1, d, body_rt (ρ := [some (.ob a), some (.d (.lst l))]) rfl (b_rt (s_ret (e_ix (e_var rfl) (e_call (a_cons (e_var rfl) (a_cons (e_bi (a_cons (e_var rfl) a_nil) el) a_nil)) (show anyC c true f ([.ob a, .d (.int l.length)] ++ ([] : List DL.D).map SV.d) M = _ from e1)) h2))), List.mem_of_getElem? h1, d1, k1, l1⟩
end
end EV

set_option autoImplicit false
/-! draws out of a dict, a list mixed by a while -/
namespace EV
open PySem PySem.Spec PyProof.Rows L2 DL
section
variable {c : Call} {ρ ρ1 : Rho} {M M1 M2 M3 : MS} {x y v : SV} {a b e o ie : IE} {kvs : List (Key × SV)} {k : Key}
theorem e_dget (ha : evE c a ρ M = some (x, M1)) (hb : evE c b ρ M1 = some (y, M2)) (hd : dctOf M2 x = some kvs) (hk : keyD y = some k) (hv : valS kvs k = some v) : evE c (.dget a b) ρ M = some (v, M2) := by
  unfold evE; rw [ha]; dsimp only [Option.bind_some]; rw [hb]; dsimp only [Option.bind_some]; rw [hd]; dsimp only [Option.bind_some]; rw [hk]; dsimp only [Option.bind_some]; rw [hv]; rfl
theorem s_dput {n : Nat} (h : evE c e ρ M = some (v, M1)) (ho : evE c o ρ M1 = some (.ob n, M2)) (hi : evE c ie ρ M2 = some (y, M3)) (hl : obj M3 n = some (.dct kvs)) (hk : keyD y = some k) (hn : kvs.length < 1000) : evS c (.dput o ie e) ρ M = some (.nx, ρ, put M3 n (.dct (putK2 kvs k v))) := by
  unfold evS; rw [h]; dsimp only [Option.bind_some]; rw [ho]; dsimp only [Option.bind_some]; rw [hi]; dsimp only [Option.bind_some]; rw [hl]; dsimp only; rw [hk]; dsimp only [Option.bind_some]; rw [if_pos hn]
theorem e_ddisp2 {k1 k2 : Str} (ha : evE c a ρ (M ++ [some (.dct [])]) = some (x, M1)) (hb : evE c b ρ M1 = some (y, M2)) (hl : obj M2 M.length = some (.dct [])) (hk : k1 ≠ k2) : evE c (.ddisp2 k1 k2 a b) ρ M = some (.ob M.length, put M2 M.length (.dct [(.inr k1, x), (.inr k2, y)])) := by
  unfold evE; rw [ha]; dsimp only [Option.bind_some]; rw [hb]; dsimp only [Option.bind_some]; rw [hl]; dsimp only; rw [if_pos ⟨hk, rfl⟩]
end
theorem great_ne : ("great" : Str) ≠ ("blend" : Str) := by decide +kernel
theorem great_neK : ¬ ((.inr "great" : Key) = .inr "blend") := fun e => great_ne (Sum.inr.inj e)
theorem great_neK2 : ¬ ((.inr "blend" : Key) = .inr "great") := fun e => great_ne (Sum.inr.inj e).symm
def box (q : Nat) (m : Int) : List (Key × SV) := [(.inr "great", .ob q), (.inr "blend", .d (.int m))]
theorem box_great {q : Nat} {m : Int} : valS (box q m) (.inr "great") = some (.ob q) := by
  unfold valS box
  rw [List.find?_cons_of_pos (by simp)]
  rfl
theorem box_blend {q : Nat} {m : Int} : valS (box q m) (.inr "blend") = some (.d (.int m)) := by
  unfold valS box
  rw [List.find?_cons_of_neg (by simp [great_ne]), List.find?_cons_of_pos (by simp)]
  rfl
theorem box_put {q : Nat} {m m2 : Int} : putK2 (box q m) (.inr "blend") (.d (.int m2)) = box q m2 := by
  unfold putK2 box
  simp [great_ne]
structure Feed (a q : Nat) (M : MS) (cells : List Int) (m : Int) : Prop where
  ne : a ≠ q
  la : obj M a = some (.dct (box q m))
  lq : obj M q = some (.lst (intsV cells))
  len : cells.length ≤ 63
  pos : ∀ c ∈ cells, 0 ≤ c
  mp : 0 ≤ m
def FeedM (a q : Nat) (M : MS) : Prop := ∃ cells m, Feed a q M cells m
def tTake : IT := .and (.val (.cmp .ne (.var 2) (.lst false (.nil)))) (.val (.cmp .eq (.ix (.var 2) (.neg (.cst (.int 1)))) (.cst (.int 0))))
def bTake : IBs := .cons (.expr (.bm .pop (.var 2) .nil)) (.nil)
def irTake : IBs := .cons (.set 2 (.dget (.var 0) (.cst (.str "great")))) (.cons (.whl tTake bTake) (.cons (.ife (.val (.cmp .ne (.var 2) (.lst false (.nil)))) (.cons (.set 3 (.bm .pop (.var 2) .nil)) (.cons (.expr (.bm .append (.var 2) (.cons (.bin .fdiv (.var 3) (.var 1)) (.nil)))) (.cons (.ret (.bin .mod (.bi .int (.cons (.var 3) (.nil))) (.var 1))) (.nil)))) (.nil)) (.cons (.dput (.var 0) (.cst (.str "blend")) (.bin .mod (.bi .int (.cons (.bin .add (.bin .mul (.dget (.var 0) (.cst (.str "blend"))) (.cst (.int 48271))) (.cst (.int 41))) (.nil))) (.cst (.int 2147483647)))) (.cons (.ret (.bin .mod (.bi .int (.cons (.bin .fdiv (.dget (.var 0) (.cst (.str "blend"))) (.cst (.int 32))) (.nil))) (.var 1))) (.nil)))))
section
variable {c : Call} {a q : Nat} {M : MS} {cells : List Int} {m many : Int} {ρ : Rho}
theorem vNe (h : Feed a q M cells m) (h2 : ρ[2]? = some (some (.ob q))) : evE c (.cmp .ne (.var 2) (.lst false (.nil))) ρ M = some (.d (.bl (!cells.isEmpty)), M) := by
  refine e_cmp (e_var h2) (e_lst a_nil (by decide) rfl) ?_
  show (eqSV M (.ob q) (.d (.lst []))).map (!·) = _
  rw [eq_nil h.lq]; rfl
theorem vLast {x : Int} (h : Feed a q M (cells ++ [x]) m) (h2 : ρ[2]? = some (some (.ob q))) : evE c (.cmp .eq (.ix (.var 2) (.neg (.cst (.int 1)))) (.cst (.int 0))) ρ M = some (.d (.bl (decide (x = 0))), M) := by
  refine e_cmp (x := .d (.int x)) (e_ix (e_var h2) (e_neg e_cst) ?_) e_cst rfl
  show ((lstOf M (.ob q)).bind fun l => (atI l (-1)).map fun v => (v, M)) = _
  rw [lstOf_ob h.lq, intsV_app]
  show ((atI (intsV cells ++ [.d (.int x)]) (-1)).map fun v => (v, M)) = _
  rw [atI_last]
  rfl
theorem feed_pop {x : Int} (h : Feed a q M (cells ++ [x]) m) : Feed a q (put M q (.lst (intsV cells))) cells m :=
  ⟨h.ne, by rw [obj_ne (fun z => h.ne z.symm)]; exact h.la, obj_put h.lq, by have := h.len; simp at this; omega, fun c hc => h.pos c (List.mem_append_left _ hc), h.mp⟩
theorem vPop {x : Int} (h : Feed a q M (cells ++ [x]) m) (h2 : ρ[2]? = some (some (.ob q))) : evE c (.bm .pop (.var 2) .nil) ρ M = some (.d (.int x), put M q (.lst (intsV cells))) :=
  e_bm (e_var h2) (bmOk_lst rfl h.lq) a_nil (popLast (by rw [← intsV_app]; exact h.lq))
theorem take_zeros (h2 : ρ[2]? = some (some (.ob q))) : ∀ (n : Nat) (cells : List Int) (M : MS), cells.length ≤ n → Feed a q M cells m → ∃ M' cells', whl (fun ρ M => evT c tTake ρ M) (fun ρ M => evB c bTake ρ M) (n + 1) ρ M = some (.nx, ρ, M') ∧ Feed a q M' cells' m ∧ Kp a q M M' ∧ M'.length = M.length := by
  have nil : ∀ (n : Nat) (M : MS), Feed a q M [] m → ∃ M' cells', whl (fun ρ M => evT c tTake ρ M) (fun ρ M => evB c bTake ρ M) (n + 1) ρ M = some (.nx, ρ, M') ∧ Feed a q M' cells' m ∧ Kp a q M M' ∧ M'.length = M.length := fun n M h =>
    ⟨M, [], whl_end (t_and (t_bl (vNe h h2)) rfl), h, Kp.refl, rfl⟩
  intro n
  induction n with
  | zero =>
    intro cells M hn h
    have e : cells = [] := List.length_eq_zero_iff.mp (by omega)
    subst e
    exact nil 0 M h
  | succ n ih =>
    intro cells M hn h
    rcases List.eq_nil_or_concat cells with e | ⟨l, x, e⟩
    · subst e
      exact nil (n + 1) M h
    · rw [List.concat_eq_append] at e
      subst e
      have ne : (!(l ++ [x]).isEmpty) = true := by cases l <;> rfl
      have t : evT c tTake ρ M = some (decide (x = 0), M) := t_and (t_bl (vNe h h2)) (by rw [ne, if_pos rfl]; exact t_bl (vLast h h2))
      by_cases hx : x = 0
      · obtain ⟨M', cells', e1, e2, e3, e4⟩ := ih l (put M q (.lst (intsV l))) (by simp at hn; omega) (feed_pop h)
        exact ⟨M', cells', whl_go (by rw [t, decide_eq_true hx]) (b_nx (s_expr (vPop h h2)) b_nil) e1, e2, kp_q.trans e3, e4.trans put_len⟩
      · exact ⟨M, l ++ [x], whl_end (by rw [t, decide_eq_false hx]), h, Kp.refl, rfl⟩
theorem blend_at (h : Feed a q M cells m) (h0 : ρ[0]? = some (some (.ob a))) : evE c (.dget (.var 0) (.cst (.str "blend"))) ρ M = some (.d (.int m), M) :=
  e_dget (e_var h0) e_cst (kvs := box q m) (by show (match obj M a with | some (.dct kvs) => some kvs | some (.dctL kvs) => some kvs | _ => none) = _; rw [h.la]) rfl box_blend
theorem great_at (h : Feed a q M cells m) (h0 : ρ[0]? = some (some (.ob a))) : evE c (.dget (.var 0) (.cst (.str "great"))) ρ M = some (.ob q, M) :=
  e_dget (e_var h0) e_cst (kvs := box q m) (by show (match obj M a with | some (.dct kvs) => some kvs | some (.dctL kvs) => some kvs | _ => none) = _; rw [h.la]) rfl box_great
theorem take_ok (h : Feed a q M cells m) (hm : 0 < many) (hm2 : many < 1073741824) : ∃ r M', body c 4 irTake [.ob a, .d (.int many)] M = some (.d (.int r), M') ∧ 0 ≤ r ∧ r < many ∧ FeedM a q M' ∧ Kp a q M M' ∧ M'.length = M.length := by
  let ρ0 : Rho := [some (.ob a), some (.d (.int many)), none, none]
  let ρ : Rho := [some (.ob a), some (.d (.int many)), some (.ob q), none]
  have hs : startD (List.replicate 4 ("" : Str)) [.ob a, .d (.int many)] = ρ0 := rfl
  have s0 : evS c (.set 2 (.dget (.var 0) (.cst (.str "great")))) ρ0 M = some (.nx, ρ, M) := s_set (great_at h rfl)
  have h2 : ρ[2]? = some (some (.ob q)) := rfl
  obtain ⟨M1, cells1, e1, h1, k1, l1⟩ := take_zeros (c := c) h2 999 cells M (by have := h.len; omega) h
  have s1 : evS c (.whl tTake bTake) ρ M = some (.nx, ρ, M1) := s_whl e1
  rcases List.eq_nil_or_concat cells1 with e | ⟨l, x, e⟩
  · subst e
    let m2 : Int := (m * 48271 + 41) % 2147483647
    have hm2p : 0 ≤ m2 := Int.emod_nonneg _ (by decide)
    let M2 := put M1 a (.dct (box q m2))
    have f2 : Feed a q M2 [] m2 := ⟨h1.ne, obj_put h1.la, by rw [obj_ne h1.ne]; exact h1.lq, by simp, by simp, hm2p⟩
    refine ⟨(m2 / 32) % many, M2, body_rt hs (b_nx s0 (b_nx s1 (b_nx (s_if (t_bl (vNe h1 h2)) (b_nil (c := c))) (b_nx (ρ1 := ρ) (M1 := M2) ?_ (b_rt (s_ret (e_bin (e_bi (a_cons (e_bin (blend_at f2 rfl) e_cst (b_fdiv (by decide) (by decide))) a_nil) bi_int) (e_var rfl) (b_mod hm)))))))), Int.emod_nonneg _ (by omega), Int.emod_lt_of_pos _ hm, ⟨[], m2, f2⟩, k1.trans kp_a, put_len.trans l1⟩
    have := s_dput (c := c) (ρ := ρ) (v := .d (.int m2)) (kvs := box q m) (n := a) (k := .inr "blend") (o := .var 0) (ie := .cst (.str "blend")) (e_bin (e_bi (a_cons (e_bin (e_bin (blend_at h1 rfl) e_cst (b_mul (j := 48271) (by decide))) e_cst (show evBin .add M1 (.d (.int (m * 48271))) (.d (.int 41)) = some (.d (.int (m * 48271 + 41)), M1) from rfl)) a_nil) bi_int) e_cst (b_mod (by decide))) (e_var rfl) e_cst h1.la rfl (by show 2 < 1000; decide)
    rw [box_put] at this
    exact this
  · rw [List.concat_eq_append] at e
    subst e
    have ne : (!(l ++ [x]).isEmpty) = true := by cases l <;> rfl
    have hx : 0 ≤ x := h1.pos x (by simp)
    have f2 := feed_pop h1
    let M2 := put M1 q (.lst (intsV l))
    let ρ2 : Rho := [some (.ob a), some (.d (.int many)), some (.ob q), some (.d (.int x))]
    let M3 := put M2 q (.lst (intsV (l ++ [x / many])))
    have f3 : Feed a q M3 (l ++ [x / many]) m := ⟨h1.ne, by rw [obj_ne (fun z => h1.ne z.symm)]; exact f2.la, obj_put f2.lq, by have := h1.len; simp at this ⊢; exact this, fun c hc => by
      rcases List.mem_append.mp hc with hc | hc
      · exact f2.pos c hc
      · rw [List.mem_singleton.mp hc]; exact Int.ediv_nonneg hx (by omega), h1.mp⟩
    refine ⟨x % many, M3, body_rt hs (b_nx s0 (b_nx s1 (b_rt (ρ1 := ρ2) (s_if (t_bl (vNe h1 h2)) ?_)))), Int.emod_nonneg _ (by omega), Int.emod_lt_of_pos _ hm, ⟨_, m, f3⟩, (k1.trans kp_q).trans kp_q, (put_len.trans put_len).trans l1⟩
    rw [ne, if_pos rfl]
    refine b_nx (s_set (vPop h1 h2)) (b_nx (s_expr (M1 := M3) (x := .d .non) (e_bm (e_var (ρ := ρ2) (v := .ob q) rfl) (bmOk_lst rfl f2.lq) (a_cons (e_bin (e_var rfl) (e_var rfl) (b_fdiv hm hm2)) a_nil) ?_)) (b_rt (s_ret (e_bin (e_bi (a_cons (e_var (ρ := ρ2) rfl) a_nil) bi_int) (e_var rfl) (b_mod hm)))))
    rw [app_ob f2.lq (by rw [intsV_len]; have := f2.len; omega)]
    show _ = some (SV.d DL.D.non, put M2 q (.lst (intsV (l ++ [x / many]))))
    rw [intsV_app]
end
section
variable {c : Call} {M : MS} {x0 x1 x2 : SV}
/-! ### the source is laid -/
def bMixF : IBs := .cons (.set 3 (.bin .mod (.bi .int (.cons (.bin .add (.bin .add (.bi .int (.cons (.bin .mul (.var 3) (.cst (.int 48271))) (.nil))) (.bin .mod (.bi .int (.cons (.var 4) (.nil))) (.cst (.int 2147483587)))) (.cst (.int 3))) (.nil))) (.cst (.int 2147483647)))) (.nil)
def irFeed : IBs := .cons (.set 2 (.lc false [4] (.nm 4) (.seq (.slc (.var 0) (.at (.var 1)) (.at (.bin .add (.var 1) (.cst (.int 60)))))) (.tt) (.bi .abs (.cons (.bi .int (.cons (.var 4) (.nil))) (.nil))))) (.cons (.set 3 (.bin .add (.cst (.int 10477)) (.bin .mul (.cst (.int 41)) (.var 1)))) (.cons (.forr (.nm 4) (.seq (.var 2)) bMixF) (.cons (.ret (.ddisp2 "great" "blend" (.rev (.lc false [4] (.nm 4) (.seq (.var 2)) (.val (.cmp .ge (.var 4) (.bin .pow (.cst (.int 10)) (.cst (.int 18))))) (.var 4))) (.var 3))) (.nil))))
theorem mix_runF : ∀ (l : List Int) (m : Int) (o4 : Option SV), 0 ≤ m → ∃ m' o4', forL (forB c (.nm 4) bMixF) (intsV l) [some x0, some x1, some x2, some (.d (.int m)), o4] M = some (.nx, [some x0, some x1, some x2, some (.d (.int m')), o4'], M) ∧ 0 ≤ m'
  | [], m, o4, h => ⟨m, o4, rfl, h⟩
  | x :: l, m, o4, h => by
    obtain ⟨m', o4', e, h'⟩ := mix_runF l ((m * 48271 + x % 2147483587 + 3) % 2147483647) (some (.d (.int x))) (Int.emod_nonneg _ (by decide))
    refine ⟨m', o4', for_go (ρ1 := [some x0, some x1, some x2, some (.d (.int ((m * 48271 + x % 2147483587 + 3) % 2147483647))), some (.d (.int x))]) (M1 := M) ?_ e, h'⟩
    show evB c bMixF [some x0, some x1, some x2, some (.d (.int m)), some (.d (.int x))] M = _
    exact b_nx (s_set (e_bin (e_bi (a_cons (e_bin (e_bin (e_bi (a_cons (e_bin (e_var rfl) e_cst (b_mul (j := 48271) (by decide))) a_nil) bi_int) (e_bin (e_bi (a_cons (e_var rfl) a_nil) bi_int) e_cst (b_mod (by decide))) rfl) e_cst rfl) a_nil) bi_int) e_cst (b_mod (by decide)))) b_nil
theorem feed_ok {ns : List Int} {base : Int} (hn : ns.length ≤ 63) (hb : 0 ≤ base ∧ base ≤ 60) : ∃ M', body c 5 irFeed [.d (.fl (ns.map DL.D.int)), .d (.int base)] M = some (.ob M.length, M') ∧ FeedM M.length (M.length + 1) M' ∧ (∀ i, i < M.length → obj M' i = obj M i) ∧ M'.length = M.length + 2 := by
  let s0 : SV := .d (.fl (ns.map DL.D.int))
  let s1 : SV := .d (.int base)
  let cs := cutL ns (some base) (some (base + 60))
  have hcs : cutL (ns.map DL.D.int) (some base) (some (base + 60)) = cs.map DL.D.int := by
    show cutL (ns.map DL.D.int) (some base) (some (base + 60)) = (cutL ns (some base) (some (base + 60))).map DL.D.int
    unfold cutL; rw [List.length_map, List.map_take, List.map_drop]
  have hcl : cs.length ≤ 63 := by
    show (cutL ns (some base) (some (base + 60))).length ≤ 63
    unfold cutL; rw [List.length_take, List.length_drop]; omega
  let ab := cs.map absI
  have h1 : evE c (.lc false [4] (.nm 4) (.seq (.slc (.var 0) (.at (.var 1)) (.at (.bin .add (.var 1) (.cst (.int 60)))))) (.tt) (.bi .abs (.cons (.bi .int (.cons (.var 4) (.nil))) (.nil)))) [some s0, some s1, none, none, none] M = some (.d (.lst (ab.map DL.D.int)), M) := by
    refine e_lc (l := intsV cs) (ys := intsV ab) (M1 := M) (M2 := M) (i_seq (d := .lst (cs.map DL.D.int)) (e_slc (m := some base) (n := some (base + 60)) (e_var (v := s0) rfl) (o_at (e_var rfl)) (o_at (e_bin (e_var (v := s1) rfl) e_cst rfl)) ?_) rfl) (by rw [intsV_len]; omega) ?_ ?_
    · show (allD ((ns.map DL.D.int).map SV.d)).bind (fun l => ret (.lst (cutL l (some base) (some (base + 60)))) M) = _
      rw [allD_map]
      show ret (.lst (cutL (ns.map DL.D.int) (some base) (some (base + 60)))) M = _
      rw [hcs]; rfl
    · have := lcL_map (b := lcB c [4] (.nm 4) .tt (.bi .abs (.cons (.bi .int (.cons (.var 4) (.nil))) (.nil))) [some s0, some s1, none, none, none]) (M := M) (f := fun v => match v with | .d (.int i) => .d (.int (absI i)) | v => v) (l := intsV cs) (ys := []) (fun x hx => by
        unfold intsV at hx
        rw [List.map_map] at hx
        obtain ⟨i, _, rfl⟩ := List.mem_map.mp hx
        exact lcb_yes (ρ1 := [some s0, some s1, none, none, some (.d (.int i))]) rfl t_tt (e_bi (a_cons (e_bi (a_cons (e_var rfl) a_nil) bi_int) a_nil) (show evBi .abs M [.d (.int i)] = some (.d (.int (absI i)), M) from rfl)))
      rw [this, List.nil_append]
      congr 1
      unfold intsV
      show ((((cs.map DL.D.int).map SV.d).map _), M) = (((cs.map absI).map DL.D.int).map SV.d, M)
      rw [List.map_map, List.map_map, List.map_map, List.map_map]
      rfl
    · show (allD ((ab.map DL.D.int).map SV.d)).bind (fun l => ret (.lst l) M) = _
      rw [allD_map]; rfl
  obtain ⟨m', o4, h3, hm⟩ := mix_runF (c := c) (M := M) (x0 := s0) (x1 := s1) (x2 := .d (.lst (ab.map DL.D.int))) ab (10477 + 41 * base) none (by omega)
  let big := ab.filter fun i => decide (i ≥ 10 ^ 18)
  let N : MS := M ++ [some (.dct [])]
  have hN : N.length = M.length + 1 := by show (M ++ [_]).length = _; simp
  have h4 : evE c (.lc false [4] (.nm 4) (.seq (.var 2)) (.val (.cmp .ge (.var 4) (.bin .pow (.cst (.int 10)) (.cst (.int 18))))) (.var 4)) [some s0, some s1, some (.d (.lst (ab.map DL.D.int))), some (.d (.int m')), o4] N = some (.d (.lst (big.map DL.D.int)), N) := by
    refine e_lc (l := intsV ab) (ys := intsV big) (M1 := N) (M2 := N) (i_seq (d := .lst (ab.map DL.D.int)) (e_var rfl) rfl) (by rw [intsV_len, List.length_map]; omega) ?_ ?_
    · have := lcL_filter (b := lcB c [4] (.nm 4) (.val (.cmp .ge (.var 4) (.bin .pow (.cst (.int 10)) (.cst (.int 18))))) (.var 4) [some s0, some s1, some (.d (.lst (ab.map DL.D.int))), some (.d (.int m')), o4]) (M := N) (p := fun v => match v with | .d (.int i) => decide (i ≥ 10 ^ 18) | _ => false) (l := intsV ab) (ys := []) (fun x hx => by
        unfold intsV at hx
        rw [List.map_map] at hx
        obtain ⟨i, _, rfl⟩ := List.mem_map.mp hx
        have ht : evT c (.val (.cmp .ge (.var 4) (.bin .pow (.cst (.int 10)) (.cst (.int 18))))) [some s0, some s1, some (.d (.lst (ab.map DL.D.int))), some (.d (.int m')), some (.d (.int i))] N = some (decide (i ≥ 10 ^ 18), N) := t_bl (e_cmp (x := .d (.int i)) (y := .d (.int (10 ^ 18))) (M2 := N) (e_var rfl) (e_bin e_cst e_cst rfl) rfl)
        show _ = some (if decide (i ≥ 10 ^ 18) = true then some (SV.d (.int i)) else none, N)
        cases hh : decide (i ≥ 10 ^ 18) with
        | true => rw [hh] at ht; exact lcb_yes (ρ1 := [some s0, some s1, some (.d (.lst (ab.map DL.D.int))), some (.d (.int m')), some (.d (.int i))]) rfl ht (e_var rfl)
        | false => rw [hh] at ht; exact lcb_no (ρ1 := [some s0, some s1, some (.d (.lst (ab.map DL.D.int))), some (.d (.int m')), some (.d (.int i))]) rfl ht)
      rw [this, List.nil_append]
      congr 1
      unfold intsV
      show (List.filter _ ((ab.map DL.D.int).map SV.d), N) = (((ab.filter _).map DL.D.int).map SV.d, N)
      rw [List.map_map, List.filter_map, List.map_map]
      rfl
    · show (allD ((big.map DL.D.int).map SV.d)).bind (fun l => ret (.lst l) N) = _
      rw [allD_map]; rfl
  let M1 : MS := N ++ [some (.lst (intsV big.reverse))]
  have hM1 : M1.length = M.length + 2 := by show (N ++ [_]).length = _; rw [List.length_append, hN]; rfl
  have o1 : obj M1 M.length = some (.dct []) := by
    show obj (N ++ [_]) M.length = _
    rw [obj_old (by omega)]; exact obj_new
  have o2 : obj M1 (M.length + 1) = some (.lst (intsV big.reverse)) := by
    show obj (N ++ [some (.lst (intsV big.reverse))]) (M.length + 1) = _
    rw [← hN]; exact obj_new
  let M2 : MS := put M1 M.length (.dct (box (M.length + 1) m'))
  have h5 : evE c (.rev (.lc false [4] (.nm 4) (.seq (.var 2)) (.val (.cmp .ge (.var 4) (.bin .pow (.cst (.int 10)) (.cst (.int 18))))) (.var 4))) [some s0, some s1, some (.d (.lst (ab.map DL.D.int))), some (.d (.int m')), o4] N = some (.ob (M.length + 1), M1) := by
    rw [e_rev h4 (l := intsV big) rfl]
    show some (SV.ob N.length, N ++ [some (MO.lst (intsV big).reverse)]) = some (SV.ob (M.length + 1), N ++ [some (.lst (intsV big.reverse))])
    rw [hN]
    unfold intsV
    rw [List.map_reverse, List.map_reverse]
  have old : ∀ i, i < M.length → obj M2 i = obj M i := fun i hi => by
    show obj (put M1 M.length _) i = _
    rw [obj_ne (by omega)]
    show obj (N ++ [_]) i = _
    rw [obj_old (by omega)]
    exact obj_old hi
  refine ⟨M2, ?_, ⟨big.reverse, m', ?_⟩, old, put_len.trans hM1⟩
  · exact body_rt (ρ := [some s0, some s1, none, none, none]) rfl (b_nx (s_set h1) (b_nx (s_set (e_bin e_cst (e_bin e_cst (e_var (v := s1) rfl) (b_mul2 (i := 41) (by decide))) rfl)) (b_nx (s_for (l := intsV ab) (i_seq (d := .lst (ab.map DL.D.int)) (e_var rfl) rfl) h3) (b_rt (s_ret (e_ddisp2 h5 (e_var rfl) o1 great_ne))))))
  · refine ⟨by omega, obj_put o1, ?_, ?_, ?_, hm⟩
    · show obj (put M1 M.length _) (M.length + 1) = _
      rw [obj_ne (by omega)]; exact o2
    · have : big.length ≤ ab.length := List.length_filter_le _ _
      rw [List.length_reverse]
      have : ab.length = cs.length := List.length_map ..
      omega
    · intro x hx
      have hx := (List.mem_filter.mp (List.mem_reverse.mp hx)).1
      obtain ⟨y, _, rfl⟩ := List.mem_map.mp hx
      exact absI_nn y
end
/-! ### a list of trees against the empty one -/
def okP (d : D) : Bool := match toPy d with
  | some p => p.canLay0 && decide (p.depth ≤ 60)
  | none => false
theorem okPs {M : MS} : ∀ {l : List D}, l.all okP = true → ∃ ps, (l.map SV.d).mapM (pyS M 3) = some ps ∧ PyData.canLayAll0 ps = true ∧ PyData.depthAll ps ≤ 60 ∧ ps.isEmpty = l.isEmpty
  | [], _ => ⟨[], rfl, rfl, by show 0 ≤ 60; omega, rfl⟩
  | d :: l, h => by
    obtain ⟨h1, h2⟩ := Bool.and_eq_true_iff.mp (show (okP d && l.all okP) = true from h)
    obtain ⟨ps, e1, e2, e3, _⟩ := okPs (M := M) h2
    unfold okP at h1
    split at h1
    · rename_i p ep
      obtain ⟨q1, q2⟩ := Bool.and_eq_true_iff.mp h1
      have q2 := of_decide_eq_true q2
      refine ⟨p :: ps, ?_, ?_, ?_, rfl⟩
      · rw [List.map_cons, List.mapM_cons, e1]
        rw [show pyS M 3 (.d d) = some p from ep]
        rfl
      · show (PyData.canLay0 p && PyData.canLayAll0 ps) = true
        rw [q1, e2]; rfl
      · show max (PyData.depth p) (PyData.depthAll ps) ≤ 60
        omega
    · cases h1
theorem eq_nilD {M : MS} {i : Nat} {l : List D} (h : obj M i = some (.lst (l.map SV.d))) (hl : l.all okP = true) : eqSV M (.ob i) (.d (.lst [])) = some l.isEmpty := by
  obtain ⟨ps, e1, e2, e3, e4⟩ := okPs (M := M) hl
  have ep : pyS M 4 (.ob i) = some (.list ps) := by
    unfold pyS
    rw [h]
    dsimp only
    rw [e1]; rfl
  have sh : SeqAt.shaped (.list ps) = true := by
    unfold SeqAt.shaped
    have h1 : PyData.canLay0 (.list ps) = true := e2
    rw [h1, Bool.true_and]
    refine decide_eq_true ?_
    show PyData.depthAll ps + 1 ≤ 64
    omega
  show (match pyS M 4 (.ob i), pyS M 4 (.d (.lst [])) with
    | some p, some q => if SeqAt.shaped p && SeqAt.shaped q then some (PyData.eqv p q) else none
    | _, _ => none) = _
  rw [ep]
  show (if SeqAt.shaped (.list ps) && SeqAt.shaped (.list []) then some (PyData.eqv (.list ps) (.list [])) else none) = _
  rw [sh]
  show some (PyData.eqv (.list ps) (.list [])) = _
  rw [← e4]
  cases ps <;> rfl
theorem erase_map {α β : Type} {f : α → β} : ∀ (l : List α) (n : Nat), (l.map f).eraseIdx n = (l.eraseIdx n).map f
  | [], _ => rfl
  | _ :: _, 0 => rfl
  | x :: l, n + 1 => congrArg (f x :: ·) (erase_map l n)
/-! ### mixed -/
def TakesAt (c : Call) (f : Nat) : Prop := ∀ (a q : Nat) (M : MS) (many : Int), FeedM a q M → 0 < many → many < 1073741824 → ∃ r M', c f [.ob a, .d (.int many)] M = some (.d (.int r), M') ∧ 0 ≤ r ∧ r < many ∧ FeedM a q M' ∧ Kp a q M M' ∧ M'.length = M.length
theorem takes_at {T : List Df} {k f : Nat} (h : T[f]? = some ⟨2, 4, irTake⟩) : TakesAt (callK T (k + 1)) f := fun a q M many ⟨cells, m, d⟩ h0 h1 => by
  obtain ⟨r, M', e, hs⟩ := take_ok (c := callK T k) d h0 h1
  refine ⟨r, M', ?_, hs⟩
  unfold callK
  rw [h]
  dsimp only
  rw [if_pos (by rfl)]
  exact e
def tMixW : IT := .val (.cmp .ne (.var 2) (.lst false (.nil)))
def irMixW (f : Nat) : IBs := .cons (.par 2 3 (.bi .list (.cons (.var 1) (.nil))) (.lst true (.nil))) (.cons (.whl tMixW (bMixed f)) (.cons (.ret (.var 3)) (.nil)))
section
variable {c : Call} {f a q p1 p2 : Nat} {s1 : SV}
theorem mixW_loop {ok : D → Bool} (hnil : ∀ (M : MS) (i : Nat) (l : List D), obj M i = some (.lst (l.map SV.d)) → l.all ok = true → eqSV M (.ob i) (.d (.lst [])) = some l.isEmpty) (hd : TakesAt c f) (hp : p1 ≠ p2) (n1 : p1 ≠ a) (n2 : p1 ≠ q) (n3 : p2 ≠ a) (n4 : p2 ≠ q) : ∀ (n : Nat) (rest found : List D) (M : MS), rest.length ≤ n → rest.all ok = true → obj M p1 = some (.lst (rest.map SV.d)) → obj M p2 = some (.lst (found.map SV.d)) → FeedM a q M → found.length + rest.length ≤ 1000 →
    ∃ (M' : MS) (found' : List D), whl (fun ρ M => evT c tMixW ρ M) (fun ρ M => evB c (bMixed f) ρ M) (n + 1) [some (.ob a), some s1, some (.ob p1), some (.ob p2)] M = some (.nx, [some (.ob a), some s1, some (.ob p1), some (.ob p2)], M') ∧ obj M' p2 = some (.lst (found'.map SV.d)) ∧ found'.Perm (found ++ rest) ∧ FeedM a q M' ∧ (∀ i, i < M.length → i ≠ a → i ≠ q → i ≠ p1 → i ≠ p2 → obj M' i = obj M i) ∧ M'.length = M.length := by
  have tt : ∀ {rest : List D} {M : MS}, rest.all ok = true → obj M p1 = some (.lst (rest.map SV.d)) → evT c tMixW [some (.ob a), some s1, some (.ob p1), some (.ob p2)] M = some (!rest.isEmpty, M) := fun {rest M} hok h1 => by
    refine t_bl (e_cmp (x := .ob p1) (y := .d (.lst [])) (M1 := M) (M2 := M) (e_var rfl) (e_lst a_nil (by decide) rfl) ?_)
    show (eqSV M (.ob p1) (.d (.lst []))).map (!·) = _
    rw [hnil M p1 rest h1 hok]; rfl
  intro n
  induction n with
  | zero =>
    intro rest found M hl hok h1 h2 h3 h4
    have e : rest = [] := List.length_eq_zero_iff.mp (by omega)
    subst e
    exact ⟨M, found, whl_end (tt hok h1), h2, by simp, h3, fun _ _ _ _ _ _ => rfl, rfl⟩
  | succ n ih =>
    intro rest found M hl hok h1 h2 h3 h4
    by_cases he : rest = []
    · subst he
      exact ⟨M, found, whl_end (tt hok h1), h2, by simp, h3, fun _ _ _ _ _ _ => rfl, rfl⟩
    · have hpos : 0 < rest.length := List.length_pos_iff.mpr he
      obtain ⟨r, M1, e1, r0, r1, d1, k1, l1⟩ := hd a q M rest.length h3 (by omega) (by omega)
      have o1 : obj M1 p1 = some (.lst (rest.map SV.d)) := by rw [k1.get p1 (obj_lt h1) n1 n2]; exact h1
      have o2 : obj M1 p2 = some (.lst (found.map SV.d)) := by rw [k1.get p2 (obj_lt h2) n3 n4]; exact h2
      obtain ⟨v, hv, ev⟩ := popAt_ob o1 r0 (by rw [List.length_map]; exact r1) (by rw [List.length_map]; omega)
      rw [List.getElem?_map] at hv
      obtain ⟨d, hv2, rfl⟩ := map_inv hv
      have ee : ((rest.map SV.d).eraseIdx r.toNat) = (rest.eraseIdx r.toNat).map SV.d := erase_map _ _
      rw [ee] at ev
      have o3 : obj (put M1 p1 (.lst ((rest.eraseIdx r.toNat).map SV.d))) p2 = some (.lst (found.map SV.d)) := by rw [obj_ne hp]; exact o2
      let M2 := put M1 p1 (.lst ((rest.eraseIdx r.toNat).map SV.d))
      let M3 := put M2 p2 (.lst ((found ++ [d]).map SV.d))
      have hr : r.toNat < rest.length := by omega
      have hle : (rest.eraseIdx r.toNat).length + 1 = rest.length := by
        rw [List.length_eraseIdx, if_pos hr]; omega
      obtain ⟨cells, m, dd⟩ := d1
      have d3 : FeedM a q M3 := ⟨cells, m, dd.ne, by rw [obj_ne n3, obj_ne n1]; exact dd.la, by rw [obj_ne n4, obj_ne n2]; exact dd.lq, dd.len, dd.pos, dd.mp⟩
      have l2 : M2.length = M1.length := put_len
      have l3 : M3.length = M1.length := put_len.trans l2
      have hok2 : (rest.eraseIdx r.toNat).all ok = true := List.all_eq_true.mpr fun x hx => List.all_eq_true.mp hok x (List.mem_of_mem_eraseIdx hx)
      obtain ⟨M', found', e5, e6, e7, e8, e9, e10⟩ := ih (rest.eraseIdx r.toNat) (found ++ [d]) M3 (by omega) hok2 (by rw [obj_ne hp.symm]; exact obj_put o1) (obj_put o3) d3 (by rw [List.length_append]; simp; omega)
      have ne : (!rest.isEmpty) = true := by cases rest <;> first | exact absurd rfl he | rfl
      refine ⟨M', found', whl_go (M1 := M) (M2 := M3) (by rw [tt hok h1, ne]) ?_ e5, e6, e7.trans ?_, e8, fun i hi a1 a2 a3 a4 => ?_, by omega⟩
      · have ap := app_ob (v := .d d) o3 (by rw [List.length_map]; omega)
        have em : found.map SV.d ++ [SV.d d] = (found ++ [d]).map SV.d := by simp
        rw [em] at ap
        have ln : evBi .len M [.ob p1] = some (.d (.int rest.length), M) := by
          have := len_ob h1
          rw [List.length_map] at this; exact this
        exact b_nx (s_expr (x := .d .non) (e_bm (e_var rfl) (bmOk_lst rfl h2) (a_cons (e_bm (e_var rfl) (bmOk_lst rfl h1) (a_cons (e_call (a_cons (e_var rfl) (a_cons (e_bi (a_cons (e_var rfl) a_nil) ln) a_nil)) (show anyC c true f ([.ob a, .d (.int rest.length)] ++ ([] : List DL.D).map SV.d) M = _ from e1)) a_nil) ev) a_nil) ap)) b_nil
      · rw [List.append_assoc]
        exact List.Perm.append_left found (perm_erase hv2)
      · rw [e9 i (by omega) a1 a2 a3 a4]
        show obj (put M2 p2 _) i = _
        rw [obj_ne (fun z => a4 z.symm)]
        show obj (put M1 p1 _) i = _
        rw [obj_ne (fun z => a3 z.symm)]
        exact k1.get i hi a1 a2
theorem mixW_ok {M : MS} {l : List D} {ok : D → Bool} (hnil : ∀ (M : MS) (i : Nat) (l : List D), obj M i = some (.lst (l.map SV.d)) → l.all ok = true → eqSV M (.ob i) (.d (.lst [])) = some l.isEmpty) (hd : TakesAt c f) (h3 : FeedM a q M) (hl : seqOf M s1 = some (l.map SV.d)) (hok : l.all ok = true) (hn : l.length ≤ 900) : ∃ (M' : MS) (l' : List D), body c 4 (irMixW f) [.ob a, s1] M = some (.ob (M.length + 1), M') ∧ obj M' (M.length + 1) = some (.lst (l'.map SV.d)) ∧ l'.Perm l ∧ FeedM a q M' ∧ Kp a q M M' ∧ M'.length = M.length + 2 := by
  obtain ⟨cells, m, dd⟩ := h3
  have la := obj_lt dd.la
  have lq := obj_lt dd.lq
  let M1 : MS := M ++ [some (.lst (l.map SV.d))]
  have hM1 : M1.length = M.length + 1 := by show (M ++ [_]).length = _; simp
  let M2 : MS := M1 ++ [some (.lst [])]
  have hM2 : M2.length = M.length + 2 := by show (M1 ++ [_]).length = _; rw [List.length_append, hM1]; rfl
  have o1 : obj M2 M.length = some (.lst (l.map SV.d)) := by
    show obj (M1 ++ [_]) M.length = _
    rw [obj_old (by omega)]; exact obj_new
  have o2 : obj M2 (M.length + 1) = some (.lst []) := by
    show obj (M1 ++ [some (.lst [])]) (M.length + 1) = _
    rw [← hM1]; exact obj_new
  have old : ∀ i, i < M.length → obj M2 i = obj M i := fun i hi => by
    show obj (M1 ++ [_]) i = _
    rw [obj_old (by omega)]
    exact obj_old hi
  have d2 : FeedM a q M2 := ⟨cells, m, dd.ne, by rw [old a la]; exact dd.la, by rw [old q lq]; exact dd.lq, dd.len, dd.pos, dd.mp⟩
  obtain ⟨M', l', e5, e6, e7, e8, e9, e10⟩ := mixW_loop (s1 := s1) hnil hd (by omega) (by omega) (by omega) (by omega) (by omega) 999 l [] M2 (by omega) hok o1 o2 d2 (by show 0 + l.length ≤ 1000; omega)
  refine ⟨M', l', ?_, e6, by simpa using e7, e8, ⟨by omega, fun i hi a1 a2 => by rw [e9 i (by omega) a1 a2 (by omega) (by omega)]; exact old i hi⟩, by omega⟩
  refine body_rt (ρ := [some (.ob a), some s1, none, none]) rfl (b_nx (s_par (x := .ob M.length) (M1 := M1) (y := .ob (M.length + 1)) (M2 := M2) (e_bi (a_cons (e_var rfl) a_nil) ?_) ?_) (b_nx (s_whl e5) (b_rt (s_ret (e_var rfl)))))
  · show (seqOf M s1).bind (fun l => EV.new M (.lst l)) = _
    rw [hl]; rfl
  · rw [e_lstO a_nil (by show 0 ≤ 1000; omega), hM1]
end
end EV

set_option autoImplicit false
namespace K
open PySem PySem.Spec PyProof.Rows L2 DL EV
def dropB : Nat → IBs → IBs
  | 0, b => b
  | _, .nil => .nil
  | n + 1, .cons _ b => dropB n b
abbrev c16 : Call := callK tab.dfs 16
def bSpot : IBs := match ir_law with
  | .cons (.forr _ _ b) _ => b
  | _ => .nil
def bItem : IBs := match dropB 1 bSpot with
  | .cons (.forr _ _ b) _ => b
  | _ => .nil
def bRest : IBs := dropB 2 bSpot
def known (M : MS) : EV.R := c16 2 [] M
def items : List DL.D := match known [none, none] with
  | some (_, M) => (match M.getD 4 none with
    | some (.lst l) => (allD l).getD []
    | _ => [])
  | none => []
def t0 : Option MO := match known [none, none] with
  | some (_, M) => M.getD 2 none
  | none => none
def t1 : Option MO := match known [none, none] with
  | some (_, M) => M.getD 3 none
  | none => none
theorem known_ok (x0 x1 x2 x3 x4 x5 x6 x7 x8 x9 x10 x11 x12 x13 x14 x15 : Option MO) :
  [known [x0, x1], known [x0, x1, x2, x3, x4, x5, x6, x7, x8], known [x0, x1, x2, x3, x4, x5, x6, x7, x8, x9, x10, x11, x12, x13, x14, x15]] =
  [some (.ob 4, [x0, x1, t0, t1, some (.lst (items.map SV.d))]), some (.ob 11, [x0, x1, x2, x3, x4, x5, x6, x7, x8, t0, t1, some (.lst (items.map SV.d))]), some (.ob 18, [x0, x1, x2, x3, x4, x5, x6, x7, x8, x9, x10, x11, x12, x13, x14, x15, t0, t1, some (.lst (items.map SV.d))])] := by kernel_rfl
theorem items_len : items.length = 15 := by kernel_rfl
theorem items_okP : items.all okP = true := by kernel_rfl
def env (s0 : SV) (o1 : Option SV) (b : Nat) (l : List (Option SV)) : Rho := some s0 :: o1 :: some (.ob b) :: l
def prj (r : Fl × Rho × MS) : Fl × Option (Option SV) × Option (Option SV) × Option (Option SV) × Nat × MS := (r.1, r.2.1[0]?, r.2.1[1]?, r.2.1[2]?, r.2.1.length, r.2.2)
def item (i : Nat) : DL.D := items.getD i .non
def It (i : Nat) : Prop := ∀ (s0 : SV) (o1 : Option SV) (b : Nat) (o3 o4 o5 o6 o7 o8 o9 o10 o11 : Option SV) (M : MS), (forB c16 (.tp [3, 4, 5, 6]) bItem (.d (item i)) (env s0 o1 b [o3, o4, o5, o6, o7, o8, o9, o10, o11]) M).map prj = some (.nx, some (some s0), some o1, some (some (.ob b)), 12, M)
theorem it0 : It 0 := fun s0 o1 b o3 o4 o5 o6 o7 o8 o9 o10 o11 M => by kernel_rfl
end K

set_option autoImplicit false
namespace K
open PySem PySem.Spec PyProof.Rows L2 DL EV
theorem it1 : It 1 := fun s0 o1 b o3 o4 o5 o6 o7 o8 o9 o10 o11 M => by kernel_rfl
theorem it2 : It 2 := fun s0 o1 b o3 o4 o5 o6 o7 o8 o9 o10 o11 M => by kernel_rfl
theorem it3 : It 3 := fun s0 o1 b o3 o4 o5 o6 o7 o8 o9 o10 o11 M => by kernel_rfl
theorem it4 : It 4 := fun s0 o1 b o3 o4 o5 o6 o7 o8 o9 o10 o11 M => by kernel_rfl
theorem it5 : It 5 := fun s0 o1 b o3 o4 o5 o6 o7 o8 o9 o10 o11 M => by kernel_rfl
theorem it6 : It 6 := fun s0 o1 b o3 o4 o5 o6 o7 o8 o9 o10 o11 M => by kernel_rfl
theorem it7 : It 7 := fun s0 o1 b o3 o4 o5 o6 o7 o8 o9 o10 o11 M => by kernel_rfl
theorem it8 : It 8 := fun s0 o1 b o3 o4 o5 o6 o7 o8 o9 o10 o11 M => by kernel_rfl
theorem it9 : It 9 := fun s0 o1 b o3 o4 o5 o6 o7 o8 o9 o10 o11 M => by kernel_rfl
theorem it10 : It 10 := fun s0 o1 b o3 o4 o5 o6 o7 o8 o9 o10 o11 M => by kernel_rfl
theorem it11 : It 11 := fun s0 o1 b o3 o4 o5 o6 o7 o8 o9 o10 o11 M => by kernel_rfl
theorem it12 : It 12 := fun s0 o1 b o3 o4 o5 o6 o7 o8 o9 o10 o11 M => by kernel_rfl
theorem it13 : It 13 := fun s0 o1 b o3 o4 o5 o6 o7 o8 o9 o10 o11 M => by kernel_rfl
theorem it14 : It 14 := fun s0 o1 b o3 o4 o5 o6 o7 o8 o9 o10 o11 M => by kernel_rfl
def RestOk : Prop := ∀ (s0 : SV) (o1 : Option SV) (b : Nat) (o3 o4 o5 o6 o7 o8 o9 o10 o11 : Option SV) (M : MS), (evB c16 bRest (env s0 o1 b [o3, o4, o5, o6, o7, o8, o9, o10, o11]) M).map prj = some (.nx, some (some s0), some o1, some (some (.ob b)), 12, M)
theorem rest_ok : RestOk := fun s0 o1 b o3 o4 o5 o6 o7 o8 o9 o10 o11 M => by kernel_rfl
end K

set_option autoImplicit false
namespace K
open PySem PySem.Spec PyProof.Rows L2 DL EV
theorem it_all : ∀ i : Nat, i < 15 → It i
  | 0, _ => it0
  | 1, _ => it1
  | 2, _ => it2
  | 3, _ => it3
  | 4, _ => it4
  | 5, _ => it5
  | 6, _ => it6
  | 7, _ => it7
  | 8, _ => it8
  | 9, _ => it9
  | 10, _ => it10
  | 11, _ => it11
  | 12, _ => it12
  | 13, _ => it13
  | 14, _ => it14
  | n + 15, h => absurd h (by omega)
theorem it_mem {d : DL.D} (h : d ∈ items) : ∃ i, i < 15 ∧ item i = d := by
  obtain ⟨i, hi⟩ := List.getElem?_of_mem h
  refine ⟨i, by rw [← items_len]; exact (List.getElem?_eq_some_iff.mp hi).1, ?_⟩
  unfold item
  rw [List.getD_eq_getElem?_getD, hi]; rfl
theorem prj_inv {x : RS} {s0 : SV} {o1 : Option SV} {b : Nat} {M : MS} (h : x.map prj = some (.nx, some (some s0), some o1, some (some (.ob b)), 12, M)) : ∃ o3 o4 o5 o6 o7 o8 o9 o10 o11, x = some (.nx, env s0 o1 b [o3, o4, o5, o6, o7, o8, o9, o10, o11], M) := by
  obtain ⟨⟨f, ρ, M'⟩, rfl, h2⟩ := map_inv h
  unfold prj at h2
  obtain ⟨rfl, h2⟩ := Prod.mk.inj h2
  obtain ⟨a0, h2⟩ := Prod.mk.inj h2
  obtain ⟨a1, h2⟩ := Prod.mk.inj h2
  obtain ⟨a2, h2⟩ := Prod.mk.inj h2
  obtain ⟨a3, rfl⟩ := Prod.mk.inj h2
  match ρ, a3 with
  | [x0, x1, x2, x3, x4, x5, x6, x7, x8, x9, x10, x11], _ =>
    cases (show some x0 = some (some s0) from a0)
    cases (show some x1 = some o1 from a1)
    cases (show some x2 = some (some (.ob b)) from a2)
    exact ⟨x3, x4, x5, x6, x7, x8, x9, x10, x11, rfl⟩
theorem at0 : tab.dfs[0]? = some ⟨2, 5, irFeed⟩ := by kernel_rfl
theorem at1 : tab.dfs[1]? = some ⟨2, 4, irMixW 7⟩ := by kernel_rfl
theorem tk : TakesAt (callK tab.dfs 15) 7 := takes_at (T := tab.dfs) (k := 14) (by kernel_rfl)
theorem spot_eq : bSpot = .cons (.set 2 (.call 0 [] true (.cons (.var 0) (.cons (.var 1) (.nil))))) (.cons (.forr (.tp [3, 4, 5, 6]) (.seq (.call 1 [] true (.cons (.var 2) (.cons (.call 2 [] true .nil) (.nil))))) bItem) bRest) := by kernel_rfl
theorem feed_app {a q : Nat} {M N : MS} (h : FeedM a q M) : FeedM a q (M ++ N) := by
  obtain ⟨cells, m, d⟩ := h
  have old : ∀ {i : Nat} {o : MO}, obj M i = some o → obj (M ++ N) i = some o := fun {i o} e => by
    have lt := obj_lt e
    have q := obj_eq e
    refine obj_mk ?_
    rw [List.getElem?_append_left lt]; exact q
  exact ⟨cells, m, d.ne, old d.la, old d.lq, d.len, d.pos, d.mp⟩
theorem known_at {i : Nat} (hi : i < 3) {M : MS} (hl : M.length = 7 * i + 2) : known M = some (.ob (M.length + 2), M ++ [t0, t1, some (.lst (items.map SV.d))]) := by
  match i, hi, M, hl with
  | 0, _, [x0, x1], _ => exact Option.some.inj (congrArg (fun l : List EV.R => l[0]?) (known_ok x0 x1 none none none none none none none none none none none none none none))
  | 1, _, [x0, x1, x2, x3, x4, x5, x6, x7, x8], _ => exact Option.some.inj (congrArg (fun l : List EV.R => l[1]?) (known_ok x0 x1 x2 x3 x4 x5 x6 x7 x8 none none none none none none none))
  | 2, _, [x0, x1, x2, x3, x4, x5, x6, x7, x8, x9, x10, x11, x12, x13, x14, x15], _ => exact Option.some.inj (congrArg (fun l : List EV.R => l[2]?) (known_ok x0 x1 x2 x3 x4 x5 x6 x7 x8 x9 x10 x11 x12 x13 x14 x15))
abbrev full (s0 : SV) (o1 o2 o3 o4 o5 o6 o7 o8 o9 o10 o11 : Option SV) : Rho := [some s0, o1, o2, o3, o4, o5, o6, o7, o8, o9, o10, o11]
theorem spot_ok {ns : List Int} (hn : ns.length ≤ 63) (i : Nat) (hi : i < 3) (o1 o2 o3 o4 o5 o6 o7 o8 o9 o10 o11 : Option SV) {M : MS} (hl : M.length = 7 * i) : ∃ M' p1 p2 p3 p4 p5 p6 p7 p8 p9 p10 p11, forB c16 (.nm 1) bSpot (.d (.int (i : Int))) (full (.d (.fl (ns.map DL.D.int))) o1 o2 o3 o4 o5 o6 o7 o8 o9 o10 o11) M = some (.nx, full (.d (.fl (ns.map DL.D.int))) p1 p2 p3 p4 p5 p6 p7 p8 p9 p10 p11, M') ∧ M'.length = 7 * (i + 1) := by
  let s0 : SV := .d (.fl (ns.map DL.D.int))
  obtain ⟨M1, e1, f1, _, l1⟩ := feed_ok (c := callK tab.dfs 15) (M := M) (ns := ns) (base := (i : Int)) hn ⟨by omega, by omega⟩
  have c1 : anyC c16 true 0 ([s0, .d (.int (i : Int))] ++ ([] : List DL.D).map SV.d) M = some (.ob M.length, M1) := by
    show callK tab.dfs (15 + 1) 0 [s0, .d (.int (i : Int))] M = _
    rw [callK_go at0 rfl]
    exact e1
  have k1 := known_at hi (M := M1) (by omega)
  let M2 : MS := M1 ++ [t0, t1, some (.lst (items.map SV.d))]
  have l2 : M2.length = M1.length + 3 := by show (M1 ++ [_, _, _]).length = _; rw [List.length_append]; rfl
  have f2 : FeedM M.length (M.length + 1) M2 := feed_app f1
  have o2' : obj M2 (M1.length + 2) = some (.lst (items.map SV.d)) := by
    refine obj_mk ?_
    show (M1 ++ [t0, t1, some (.lst (items.map SV.d))])[M1.length + 2]? = _
    rw [List.getElem?_append_right (by omega)]
    rw [show M1.length + 2 - M1.length = 2 from by omega]; rfl
  obtain ⟨M3, l', e3, h3, pm, f3, k3, n3⟩ := mixW_ok (s1 := .ob (M1.length + 2)) (l := items) (M := M2) (ok := okP) (fun M i l => eq_nilD) tk f2 (lstOf_ob o2') items_okP (by rw [items_len]; omega)
  have c3 : anyC c16 true 1 ([.ob M.length, .ob (M1.length + 2)] ++ ([] : List DL.D).map SV.d) M2 = some (.ob (M2.length + 1), M3) := by
    show callK tab.dfs (15 + 1) 1 [.ob M.length, .ob (M1.length + 2)] M2 = _
    rw [callK_go at1 rfl]
    exact e3
  have hlen : l'.length = 15 := by rw [pm.length_eq, items_len]
  obtain ⟨ρ5, e5, u3, u4, u5, u6, u7, u8, u9, u10, u11, rfl⟩ := forO_inv (bb := forB c16 (.tp [3, 4, 5, 6]) bItem) (M := M3) (P := fun ρ => ∃ o3 o4 o5 o6 o7 o8 o9 o10 o11, ρ = env s0 (some (.d (.int (i : Int)))) M.length [o3, o4, o5, o6, o7, o8, o9, o10, o11]) h3 (fun x hx ρ ⟨o3, o4, o5, o6, o7, o8, o9, o10, o11, hρ⟩ => by
    subst hρ
    obtain ⟨d, hd, rfl⟩ := List.mem_map.mp hx
    obtain ⟨j, hj, rfl⟩ := it_mem (pm.mem_iff.mp hd)
    obtain ⟨u3, u4, u5, u6, u7, u8, u9, u10, u11, e⟩ := prj_inv (it_all j hj s0 (some (.d (.int (i : Int)))) M.length o3 o4 o5 o6 o7 o8 o9 o10 o11 M3)
    exact ⟨_, e, _, _, _, _, _, _, _, _, _, rfl⟩) 1000 0 (env s0 (some (.d (.int (i : Int)))) M.length [o3, o4, o5, o6, o7, o8, o9, o10, o11]) (by rw [List.length_map, hlen]; omega) (by omega) ⟨_, _, _, _, _, _, _, _, _, rfl⟩
  obtain ⟨w3, w4, w5, w6, w7, w8, w9, w10, w11, e6⟩ := prj_inv (rest_ok s0 (some (.d (.int (i : Int)))) M.length u3 u4 u5 u6 u7 u8 u9 u10 u11 M3)
  refine ⟨M3, some (.d (.int (i : Int))), some (.ob M.length), w3, w4, w5, w6, w7, w8, w9, w10, w11, ?_, by omega⟩
  show evB c16 bSpot [some s0, some (.d (.int (i : Int))), o2, o3, o4, o5, o6, o7, o8, o9, o10, o11] M = _
  rw [spot_eq]
  exact b_nx (s_set (e_call (a_cons (e_var rfl) (a_cons (e_var rfl) a_nil)) c1)) (b_nx (s_forO (i_ob (e_call (a_cons (e_var rfl) (a_cons (e_call a_nil (show anyC c16 true 2 ([] ++ ([] : List DL.D).map SV.d) M1 = _ from k1)) a_nil)) c3) h3) e5) e6)
def nSpots (l : Nat) : Int := if (if (l : Int) < 3 then (l : Int) else 3) > 1 then (if (l : Int) < 3 then (l : Int) else 3) else 1
theorem law_true : ∀ ns : List Int, ns.length ≤ 63 → ∃ M', callK tab.dfs (16 + 1) 51 [.d (.fl (ns.map DL.D.int))] [] = some (.d (.bl true), M') := fun ns hn => by
  let s0 : SV := .d (.fl (ns.map DL.D.int))
  obtain ⟨Ma, a1, a2, a3, a4, a5, a6, a7, a8, a9, a10, a11, ea, la⟩ := spot_ok (ns := ns) hn 0 (by decide) none none none none none none none none none none none (M := []) rfl
  obtain ⟨Mb, b1, b2, b3, b4, b5, b6, b7, b8, b9, b10, b11, eb, lb⟩ := spot_ok (ns := ns) hn 1 (by decide) a1 a2 a3 a4 a5 a6 a7 a8 a9 a10 a11 la
  obtain ⟨Mc, c1, c2, c3, c4, c5, c6, c7, c8, c9, c10, c11, ec, lc⟩ := spot_ok (ns := ns) hn 2 (by decide) b1 b2 b3 b4 b5 b6 b7 b8 b9 b10 b11 lb
  have hr : evI c16 (.rng (.bi .max (.cons (.cst (.int 1)) (.cons (.bi .min (.cons (.cst (.int 3)) (.cons (.bi .len (.cons (.var 0) (.nil))) (.nil)))) (.nil))))) (full s0 none none none none none none none none none none none) [] = some (.xs ((List.range (nSpots ns.length).toNat).map fun (i : Nat) => SV.d (.int (i : Int))), []) := by
    refine i_rng (n := nSpots ns.length) (e_bi (a_cons e_cst (a_cons (e_bi (a_cons e_cst (a_cons (e_bi (a_cons (e_var rfl) a_nil) (show evBi .len [] [s0] = some (.d (.int ns.length), []) from ?_)) a_nil)) rfl) a_nil)) rfl) ?_
    · show ret (.int (((ns.map DL.D.int).map SV.d).length : Int)) [] = _
      rw [List.length_map, List.length_map]; rfl
    · unfold nSpots; split <;> split <;> omega
  have body : ∃ ρ M', forL (forB c16 (.nm 1) bSpot) ((List.range (nSpots ns.length).toNat).map fun (i : Nat) => SV.d (.int (i : Int))) (full s0 none none none none none none none none none none none) [] = some (.nx, ρ, M') := by
    have hc : (nSpots ns.length).toNat = 1 ∨ (nSpots ns.length).toNat = 2 ∨ (nSpots ns.length).toNat = 3 := by
      unfold nSpots; split <;> split <;> omega
    rcases hc with h | h | h <;> rw [h]
    · exact ⟨_, _, for_go ea for_nil⟩
    · exact ⟨_, _, for_go ea (for_go eb for_nil)⟩
    · exact ⟨_, _, for_go ea (for_go eb (for_go ec for_nil))⟩
  obtain ⟨ρ, M', e⟩ := body
  refine ⟨M', ?_⟩
  rw [callK_go (df := ⟨1, 12, ir_law⟩) (by kernel_rfl) rfl]
  refine body_rt (v := .d (.bl true)) (M1 := M') (ρ1 := ρ) (ρ := full s0 none none none none none none none none none none none) rfl ?_
  show evB c16 (.cons (.forr (.nm 1) (.rng (.bi .max (.cons (.cst (.int 1)) (.cons (.bi .min (.cons (.cst (.int 3)) (.cons (.bi .len (.cons (.var 0) (.nil))) (.nil)))) (.nil))))) bSpot) (.cons (.ret (.cst (.bl true))) (.nil))) _ [] = _
  exact b_nx (s_for hr e) (b_rt (s_ret e_cst))
end K

set_option autoImplicit false
/-! the head's run in pieces -/
namespace EV
open PySem PySem.Spec PyProof.Rows L2 DL
def Tab.ex1 (T : Tab) (K : PySem.W.Frag) : Bool :=
  T.props.all (fun p => propB K (T.cl K p.1) p.2.1) && (
  T.cmets.all (fun p => PySem.W.readsIn K (T.cl K p.1) (.type "type") && (He5.wrapB K (T.cl K p.1) "classmethod" "classmethod.__get__" p.2.1 && PySem.W.fnIn K (He5.wf K (T.cl K p.1) "classmethod" p.2.1))) && (
  T.inits.all (fun p => PySem.W.makesIn K (T.cl K p.1) && (decide (PySem.W.findIn K (.ref (T.cl K p.1)) "__init__" = some (some (.ref (T.fa K p.2)))) && (PySem.W.isFn K (.ref (T.fa K p.2)) && PySem.W.keepIn K (.ref (T.cl K p.1))))) && 
  T.meths.all (fun p => decide (PySem.W.findIn K (.ref (T.cl K p.1)) p.2.1 = some (some (.ref (T.fa K p.2.2)))) && (PySem.W.isFn K (.ref (T.fa K p.2.2)) && PySem.W.keepIn K (.ref (T.fa K p.2.2))))))
def Tab.ex2 (T : Tab) (K : PySem.W.Frag) : Bool :=
  T.flds.all (fun p => decide (PySem.W.findIn K (.ref (T.cl K p.1)) p.2 = some none)) && (
  T.clss.all (fun c => insB K (T.cl K c)) && (
  T.cn.all (fun x => PySem.W.keepIn K (.ref (He.ga K x))) && (
  T.kons.all (fun p => konB K (.ref (He.ga K p.1)) p.2) && T.defs.all (fun d => dfsB K d.dfl d.dvs))))
def Tab.ex3 (T : Tab) (K : PySem.W.Frag) : Bool := T.tys.all fun t => T.tys.all fun u => decide (PySem.W.kitOne K (T.tv K t) (T.tv K u) = some (sub1 t u))
theorem Tab.ex_of {T : Tab} {K : PySem.W.Frag} (h1 : T.ex1 K = true) (h2 : T.ex2 K = true) (h3 : T.ex3 K = true) : T.ex K = true := by
  unfold Tab.ex1 at h1
  unfold Tab.ex2 at h2
  unfold Tab.ex3 at h3
  obtain ⟨a0, h1⟩ := Bool.and_eq_true_iff.mp h1
  obtain ⟨a1, h1⟩ := Bool.and_eq_true_iff.mp h1
  obtain ⟨a2, a3⟩ := Bool.and_eq_true_iff.mp h1
  obtain ⟨b1, h2⟩ := Bool.and_eq_true_iff.mp h2
  obtain ⟨b2, h2⟩ := Bool.and_eq_true_iff.mp h2
  obtain ⟨b3, h2⟩ := Bool.and_eq_true_iff.mp h2
  obtain ⟨b4, b5⟩ := Bool.and_eq_true_iff.mp h2
  unfold Tab.ex
  rw [a0, a1, a2, a3, b1, b2, b3, b4, b5]
  exact h3
end EV
namespace EV
open PySem PySem.W PySem.Calls PyProof.Rows HandSHeadRun
def KofS (deep : Nat) (s : SharedT) : Frag := He.frT (getT s) (He5.asA (getT s) deep)
theorem runEq_of {r : OpenRow} {q : Program} {T : EV.Tab} {deep M : Nat} {loose : List PySem.Str} {w : World}
    (h1 : ∀ os : OsState, (endF (stepQ (denQ tabQ) r.prog w) M r.prog w os).map (fun s => (looksF r.prog (boot_heap w.params) s.abs, seenQ q loose (importedModules r.prog.main.body) (fun s => xlAt q [] s && recOk r.toRowW.records s) s.abs)) = some (true, openGood q loose))
    (h2 : ∀ os : OsState, (endF (stepQ (denQ tabQ) r.prog w) M r.prog w os).map (fun s => He5.obsA T.fas T.fn (KofS deep s)) = some (He5.valA T.fn))
    (h3 : ∀ os : OsState, (endF (stepQ (denQ tabQ) r.prog w) M r.prog w os).map (fun s => T.ex1 (KofS deep s)) = some true)
    (h4 : ∀ os : OsState, (endF (stepQ (denQ tabQ) r.prog w) M r.prog w os).map (fun s => T.ex2 (KofS deep s)) = some true)
    (h5 : ∀ os : OsState, (endF (stepQ (denQ tabQ) r.prog w) M r.prog w os).map (fun s => T.ex3 (KofS deep s)) = some true) :
    RunEq r q (hookE deep T) (fun s => obsE deep T (getT s)) M loose w := fun os => by
  have a1 := h1 os
  have a2 := h2 os
  have a3 := h3 os
  have a4 := h4 os
  have a5 := h5 os
  clear h1 h2 h3 h4 h5
  generalize endF (stepQ (denQ tabQ) r.prog w) M r.prog w os = e at a1 a2 a3 a4 a5 ⊢
  cases e with
  | none => cases a1
  | some s =>
    have b1 := Option.some.inj a1
    have b2 : He5.obsA T.fas T.fn (KofS deep s) = He5.valA T.fn := Option.some.inj a2
    have b3 : T.ex (KofS deep s) = true := EV.Tab.ex_of (Option.some.inj a3) (Option.some.inj a4) (Option.some.inj a5)
    have b4 : obsE deep T (getT s) = (He5.valA T.fn, true) := by
      show (He5.obsA T.fas T.fn (KofS deep s), T.ex (KofS deep s)) = _
      rw [b2, b3]
    refine congrArg some ?_
    show (looksF r.prog (boot_heap w.params) s.abs, seenQ q loose (importedModules r.prog.main.body) (fun s => xlAt q [] s && recOk r.toRowW.records s) s.abs, obsE deep T (getT s)) = (true, openGood q loose, (He5.valA T.fn, true))
    rw [b4]
    obtain ⟨c1, c2⟩ := Prod.mk.inj b1
    rw [c1, c2]
def KofL (as : List Addr) (s : SharedT) : Frag := He.frT (getT s) as
theorem runEq_ofL {r : OpenRow} {q : Program} {T : EV.Tab} {as : List Addr} {M : Nat} {loose : List PySem.Str} {w : World}
    (h1 : ∀ os : OsState, (endF (stepQ (denQ tabQ) r.prog w) M r.prog w os).map (fun s => (looksF r.prog (boot_heap w.params) s.abs, seenQ q loose (importedModules r.prog.main.body) (fun s => xlAt q [] s && recOk r.toRowW.records s) s.abs)) = some (true, openGood q loose))
    (h2 : ∀ os : OsState, (endF (stepQ (denQ tabQ) r.prog w) M r.prog w os).map (fun s => He5.obsA T.fas T.fn (KofL as s)) = some (He5.valA T.fn))
    (h3 : ∀ os : OsState, (endF (stepQ (denQ tabQ) r.prog w) M r.prog w os).map (fun s => T.ex1 (KofL as s)) = some true)
    (h4 : ∀ os : OsState, (endF (stepQ (denQ tabQ) r.prog w) M r.prog w os).map (fun s => T.ex2 (KofL as s)) = some true)
    (h5 : ∀ os : OsState, (endF (stepQ (denQ tabQ) r.prog w) M r.prog w os).map (fun s => T.ex3 (KofL as s)) = some true) :
    RunEq r q (hookL as T) (fun s => obsL as T (getT s)) M loose w := fun os => by
  have a1 := h1 os
  have a2 := h2 os
  have a3 := h3 os
  have a4 := h4 os
  have a5 := h5 os
  clear h1 h2 h3 h4 h5
  generalize endF (stepQ (denQ tabQ) r.prog w) M r.prog w os = e at a1 a2 a3 a4 a5 ⊢
  cases e with
  | none => cases a1
  | some s =>
    have b1 := Option.some.inj a1
    have b2 : He5.obsA T.fas T.fn (KofL as s) = He5.valA T.fn := Option.some.inj a2
    have b3 : T.ex (KofL as s) = true := EV.Tab.ex_of (Option.some.inj a3) (Option.some.inj a4) (Option.some.inj a5)
    have b4 : obsL as T (getT s) = (He5.valA T.fn, true) := by
      show (He5.obsA T.fas T.fn (KofL as s), T.ex (KofL as s)) = _
      rw [b2, b3]
    refine congrArg some ?_
    show (looksF r.prog (boot_heap w.params) s.abs, seenQ q loose (importedModules r.prog.main.body) (fun s => xlAt q [] s && recOk r.toRowW.records s) s.abs, obsL as T (getT s)) = (true, openGood q loose, (He5.valA T.fn, true))
    rw [b4]
    obtain ⟨c1, c2⟩ := Prod.mk.inj b1
    rw [c1, c2]
end EV

set_option autoImplicit false
namespace K
open PySem PySem.W PySem.Calls PyProof.Rows HandSHeadRun
def loose1 : List Str := ["_wall", "CardError", "InvalidRow", "InvalidTool", "InvalidTerms", "InvalidText", "InvalidEvent", "NoRow", "NOT_NAMES", "is_integer", "is_number", "is_sequence", "is_name", "short_number", "Terms", "is_possible", "first_wrong", "card_in", "least_terms", "Story"]
def loose2 : List Str := ["WORDS", "WORDS_WITH_DEEDS", "is_word", "is_lead_and_name", "is_test", "is_deed", "are_tests", "are_deeds", "is_opens", "Row", "is_window", "are_rows", "name_in", "names_in", "read_line", "word_for", "is_fulfilled", "is_for", "marks_behind", "Tool"]
def loose3 : List Str := ["ELDER", "Door", "START", "Pair", "parting_events", "alike", "parting", "_law_feed", "_law_take", "_law_mixed", "_law_known"]
def loose : List Str := loose1 ++ loose2 ++ loose3
abbrev R : OpenRow := OpenLaw.row PySem.Challenge.rw_deskcards_k45_comparing_known_by_hand
def adrs : List Addr := (3 :: 6 :: 4 :: 21 :: 31 :: 51 :: 70 :: 89 :: 108 :: 127 :: 146 :: 150 :: 157 :: 164 :: 171 :: 178 :: 185 :: 241 :: 252 :: 259 :: 266 :: 273 :: 345 :: 350 :: 351 :: 358 :: 365 :: 372 :: 379 :: 384 :: 389 :: 396 :: 440 :: 451 :: 456 :: 463 :: 468 :: 475 :: 482 :: 489 :: 494 :: 501 :: 601 :: 655 :: 663 :: 702 :: 713 :: 720 :: 727 :: 732 :: 739 :: 746 :: 753 :: 758 :: 0 :: 20 :: 30 :: 50 :: 69 :: 88 :: 107 :: 126 :: 145 :: 156 :: 163 :: 170 :: 177 :: 184 :: 240 :: 251 :: 258 :: 265 :: 272 :: 344 :: 357 :: 364 :: 371 :: 378 :: 383 :: 388 :: 395 :: 439 :: 450 :: 455 :: 462 :: 467 :: 474 :: 481 :: 488 :: 493 :: 500 :: 600 :: 654 :: 662 :: 701 :: 712 :: 719 :: 726 :: 731 :: 738 :: 745 :: 752 :: 757 :: 15 :: 16 :: 17 :: 18 :: 19 :: 29 :: 32 :: 48 :: 49 :: 67 :: 68 :: 86 :: 87 :: 105 :: 106 :: 124 :: 125 :: 143 :: 144 :: 147 :: 151 :: 152 :: 153 :: 154 :: 155 :: 158 :: 159 :: 160 :: 161 :: 162 :: 165 :: 166 :: 167 :: 168 :: 169 :: 172 :: 173 :: 174 :: 175 :: 176 :: 179 :: 180 :: 181 :: 182 :: 183 :: 200 :: 209 :: 217 :: 224 :: 231 :: 238 :: 239 :: 242 :: 243 :: 246 :: 247 :: 248 :: 249 :: 250 :: 253 :: 254 :: 255 :: 256 :: 257 :: 260 :: 261 :: 262 :: 263 :: 264 :: 267 :: 268 :: 269 :: 270 :: 271 :: 289 :: 298 :: 307 :: 314 :: 321 :: 328 :: 335 :: 342 :: 343 :: 346 :: 347 :: 352 :: 353 :: 354 :: 355 :: 356 :: 359 :: 360 :: 361 :: 362 :: 363 :: 366 :: 367 :: 368 :: 369 :: 370 :: 373 :: 374 :: 375 :: 376 :: 377 :: 380 :: 381 :: 382 :: 385 :: 386 :: 387 :: 390 :: 391 :: 392 :: 393 :: 394 :: 413 :: 422 :: 430 :: 437 :: 438 :: 441 :: 442 :: 445 :: 446 :: 447 :: 448 :: 449 :: 452 :: 453 :: 454 :: 457 :: 458 :: 459 :: 460 :: 461 :: 464 :: 465 :: 466 :: 469 :: 470 :: 471 :: 472 :: 473 :: 476 :: 477 :: 478 :: 479 :: 480 :: 483 :: 484 :: 485 :: 486 :: 487 :: 490 :: 491 :: 492 :: 495 :: 496 :: 497 :: 498 :: 499 :: 515 :: 522 :: 530 :: 537 :: 544 :: 551 :: 558 :: 565 :: 572 :: 579 :: 586 :: 593 :: 598 :: 599 :: 602 :: 603 :: 617 :: 624 :: 631 :: 638 :: 645 :: 652 :: 653 :: 656 :: 657 :: 660 :: 661 :: 677 :: 684 :: 689 :: 694 :: 699 :: 700 :: 703 :: 704 :: 707 :: 708 :: 709 :: 710 :: 711 :: 714 :: 715 :: 716 :: 717 :: 718 :: 721 :: 722 :: 723 :: 724 :: 725 :: 728 :: 729 :: 730 :: 733 :: 734 :: 735 :: 736 :: 737 :: 740 :: 741 :: 742 :: 743 :: 744 :: 747 :: 748 :: 749 :: 750 :: 751 :: 754 :: 755 :: 756 :: 47 :: 66 :: 85 :: 104 :: 123 :: 142 :: 199 :: 193 :: 207 :: 208 :: 216 :: 223 :: 230 :: 237 :: 288 :: 282 :: 296 :: 297 :: 306 :: 313 :: 320 :: 327 :: 334 :: 341 :: 412 :: 406 :: 420 :: 421 :: 429 :: 436 :: 514 :: 510 :: 520 :: 521 :: 529 :: 536 :: 543 :: 550 :: 557 :: 564 :: 571 :: 578 :: 585 :: 592 :: 597 :: 616 :: 623 :: 630 :: 637 :: 644 :: 651 :: 676 :: 683 :: 688 :: 693 :: 698 :: 42 :: 43 :: 44 :: 45 :: 46 :: 61 :: 62 :: 63 :: 64 :: 65 :: 80 :: 81 :: 82 :: 83 :: 84 :: 99 :: 100 :: 101 :: 102 :: 103 :: 118 :: 119 :: 120 :: 121 :: 122 :: 137 :: 138 :: 139 :: 140 :: 141 :: 194 :: 195 :: 196 :: 197 :: 198 :: 206 :: 210 :: 211 :: 212 :: 213 :: 214 :: 215 :: 218 :: 219 :: 220 :: 221 :: 222 :: 225 :: 226 :: 227 :: 228 :: 229 :: 232 :: 233 :: 234 :: 235 :: 236 :: 283 :: 284 :: 285 :: 286 :: 287 :: 281 :: 295 :: 299 :: 305 :: 308 :: 309 :: 310 :: 311 :: 312 :: 315 :: 316 :: 317 :: 318 :: 319 :: 322 :: 323 :: 324 :: 325 :: 326 :: 329 :: 330 :: 331 :: 332 :: 333 :: 336 :: 337 :: 338 :: 339 :: 340 :: 407 :: 408 :: 409 :: 410 :: 411 :: 404 :: 405 :: 419 :: 423 :: 424 :: 425 :: 426 :: 427 :: 428 :: 431 :: 432 :: 433 :: 434 :: 435 :: 511 :: 512 :: 513 :: 509 :: 519 :: 523 :: 524 :: 525 :: 526 :: 527 :: 528 :: 531 :: 532 :: 533 :: 534 :: 535 :: 538 :: 539 :: 540 :: 541 :: 542 :: 545 :: 546 :: 547 :: 548 :: 549 :: 552 :: 553 :: 554 :: 555 :: 556 :: 559 :: 560 :: 561 :: 562 :: 563 :: 566 :: 567 :: 568 :: 569 :: 570 :: 573 :: 574 :: 575 :: 576 :: 577 :: 580 :: 581 :: 582 :: 583 :: 584 :: 587 :: 588 :: 589 :: 590 :: 591 :: 594 :: 595 :: 596 :: 613 :: 614 :: 615 :: 618 :: 619 :: 620 :: 621 :: 622 :: 625 :: 626 :: 627 :: 628 :: 629 :: 632 :: 633 :: 634 :: 635 :: 636 :: 639 :: 640 :: 641 :: 642 :: 643 :: 646 :: 647 :: 648 :: 649 :: 650 :: 671 :: 672 :: 673 :: 674 :: 675 :: 678 :: 679 :: 680 :: 681 :: 682 :: 685 :: 686 :: 687 :: 690 :: 691 :: 692 :: 695 :: 696 :: 697 :: 2 :: [])
abbrev hk : Hook := EV.hookL adrs tab
def ob (s : SharedT) : He.AlD × Bool := EV.obsL adrs tab (getT s)
theorem ob_eq (s : SharedT) : ob s = hk.obs s.abs := EV.obsL_eq (getT_eq s)
theorem r1 (w : World) : ∀ os : OsState, (endF (stepQ (denQ tabQ) R.prog w) 12000 R.prog w os).map (fun s => (looksF R.prog (boot_heap w.params) s.abs, seenQ (view R.prog [60]) loose (importedModules R.prog.main.body) (fun s => xlAt (view R.prog [60]) [] s && recOk R.toRowW.records s) s.abs)) = some (true, openGood (view R.prog [60]) loose) := by
  intro os
  kernel_rfl
theorem r2 (w : World) : ∀ os : OsState, (endF (stepQ (denQ tabQ) R.prog w) 12000 R.prog w os).map (fun s => He5.obsA tab.fas tab.fn (EV.KofL adrs s)) = some (He5.valA tab.fn) := by
  intro os
  kernel_rfl
theorem r3 (w : World) : ∀ os : OsState, (endF (stepQ (denQ tabQ) R.prog w) 12000 R.prog w os).map (fun s => tab.ex1 (EV.KofL adrs s)) = some true := by
  intro os
  kernel_rfl
theorem r4 (w : World) : ∀ os : OsState, (endF (stepQ (denQ tabQ) R.prog w) 12000 R.prog w os).map (fun s => tab.ex2 (EV.KofL adrs s)) = some true := by
  intro os
  kernel_rfl
theorem r5 (w : World) : ∀ os : OsState, (endF (stepQ (denQ tabQ) R.prog w) 12000 R.prog w os).map (fun s => tab.ex3 (EV.KofL adrs s)) = some true := by
  intro os
  kernel_rfl
theorem run (w : World) : RunEq R (view R.prog [60]) hk ob 12000 loose w := EV.runEq_ofL (r1 w) (r2 w) (r3 w) (r4 w) (r5 w)
end K

set_option autoImplicit false
namespace K
open PySem PySem.Spec PyProof.Rows L2 DL EV
theorem facts {P : Program} {w : World} {K : PySem.W.Frag} {h : Heap} {mg : Str → Option Value} {f : Addr} (KX : K.In h) (G : h.Ns mainGlobals mg) (hfa : mg ("law" : Str) = some (.ref f)) (c : He5.SaysA tab.fas tab.fn K) (ex : tab.ex K = true) :
    ∃ fd : FuncData, (∀ (s : Shared) (v : Value), BindsTo s fd ⟨[v], []⟩ [("_law_script", v)]) ∧ ∀ base : Heap, K.In base → base.Ns mainGlobals mg → LawAt P w K mg base f fd "_law_script" (spLawD (tab.wd K w)) :=
  law_facts (dL := dI_law) (L := 51) (k := 16) default KX G hfa c ex (by kernel_rfl) bnds kbs (fun A W => ok_all) rfl rfl (mb (by kernel_rfl)) rfl
    (fun kV doc pm an cdv ct us hl => match us, hl with | [_], _ => rfl) ⟨rfl, by decide, by decide⟩ law_true
end K
open PySem PySem.W PySem.Calls PyProof.Rows
theorem PySem.Challenge.cw_deskcards_k45_comparing_known_by_hand_holds : PySem.Challenge.rw_deskcards_k45_comparing_known_by_hand.Holds := by
  w_on; o_law
  refine HandSHeadRun.head_any (r := OpenLaw.row PySem.Challenge.rw_deskcards_k45_comparing_known_by_hand) (q := view (OpenLaw.row PySem.Challenge.rw_deskcards_k45_comparing_known_by_hand).prog [60]) (H := K.hk) (ob := K.ob) (M := 12000) (loose := K.loose) (d := HandSHeadRun.topDef (OpenLaw.row PySem.Challenge.rw_deskcards_k45_comparing_known_by_hand).prog 60) (kwd := []) K.ob_eq
    (by kernel_rfl) (fun s => by kernel_rfl) K.run (by kernel_rfl) (by kernel_rfl) (by kernel_rfl) (by rfl) (by first | assumption | decide +kernel) (by decide +kernel) ⟨rfl, rfl, rfl, rfl, rfl, by decide +kernel⟩ ?hw ?hc
  case hw => w_witness2
  case hc =>
    refine DL.walkAt (l := PySem.Challenge.rw_deskcards_k45_comparing_known_by_hand) (n := 63) (x := "_law_script") rfl (by decide) (by kernel_rfl) ?F
    intro w mg fa h Y G hmg0
    obtain ⟨K, KX, c⟩ := Y
    have hmg : mg ("law" : PySem.Str) = some (.ref fa) := by
      have e : (HandSHeadRun.topDef (OpenLaw.row PySem.Challenge.rw_deskcards_k45_comparing_known_by_hand).prog 60).name = ("law" : PySem.Str) := by kernel_rfl
      rw [← e]
      exact hmg0
    obtain ⟨fd, hb, hF⟩ := _root_.K.facts (P := (PySem.Challenge.rw_deskcards_k45_comparing_known_by_hand).prog) (w := w) KX G hmg c.1 c.2
    exact ⟨K, fd, DL.spLawD (_root_.K.tab.wd K w), KX, hb, fun H a ns hl _ hS => ⟨a, ns, rfl, hS, hl, fun _ => rfl⟩, hF⟩

