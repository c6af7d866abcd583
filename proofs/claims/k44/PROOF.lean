import PyProof.Rows.All
import Wide.All
import OpenK.AllK
import Wide.FinOn
import KE.KStateDown
import Lean
import HandS.ForMost
import HandS.WordsExc
import HandS.Defaults
import HandS.Head0
import HandS.Head1
import HandS.Head2
import HandS.HeadEnd
import HandS.HeadHook1
import HandS.HeadHook2
import KE.DatumOrd
import PyProof.ListStr
import PyProof.StrOps2
import PyProof.ReprRoads
import HandS.Style
import HandS.Strs
import HandS.Star
import HandS.IsInst
import PyProof.Rows.SetFrom
import HandS.SetKeys
import PyProof.ReprBulk
import HandS.Walk
import KE.DatumMoreOrd
import HandS.DictTup
import HandS.DictComp
import HandS.Rev
import HandS.Zip
import HandS.TupAny
import HandS.Text
import HandS.More
import HandS.SetBool
import PyProof.Rows.SortShellAny
import HandS.TupSets
import HandS.SortRule
import KE.SortData
import HandS.RevTup
import PyProof.FactsAll.subtypes_3
import PyProof.FactsAll.NoneType_1
import KE.KRevSl
import HandS.SlotsOwn
import HandS.Wide
import HandS.ExcInit
import HandS.ExcIs
import HandS.ExcValue
import HandS.ExcBuiltin
import HandS.ExcField
import HandS.HotCalls
import KE.KExcInit
import KE.KExcIs
import HandS.MakeKw
import HandS.Ends
import HandS.Words
import PySem.Challenge.RW_streamwrights_k44_markings_of_any_value
set_option Elab.async false
set_option linter.all false
set_option maxRecDepth 100000
set_option maxHeartbeats 0
namespace Sw
/-- how far two lists are alike -/
def lcp : List Nat → List Nat → Nat
  | a :: as, b :: bs => if a = b then lcp as bs + 1 else 0
  | _, _ => 0
theorem lcp_le_left : ∀ x y, lcp x y ≤ x.length
  | [], _ => by simp [lcp]
  | _ :: _, [] => by simp [lcp]
  | a :: as, b :: bs => by
    have := lcp_le_left as bs
    unfold lcp; split
    · simp only [List.length_cons]; omega
    · exact Nat.zero_le _
theorem lcp_le_right : ∀ x y, lcp x y ≤ y.length
  | [], _ => by simp [lcp]
  | _ :: _, [] => by simp [lcp]
  | a :: as, b :: bs => by
    have := lcp_le_right as bs
    unfold lcp; split
    · simp only [List.length_cons]; omega
    · exact Nat.zero_le _
theorem lcp_take : ∀ x y : List Nat, x.take (lcp x y) = y.take (lcp x y)
  | [], y => by simp [lcp]
  | _ :: _, [] => by simp [lcp]
  | a :: as, b :: bs => by
    have := lcp_take as bs
    unfold lcp; split
    · rename_i h; subst h; simp only [List.take_succ_cons, this]
    · simp
/-- a step of the loops: below the end the next signs are alike -/
theorem lcp_step : ∀ (x y : List Nat) (n : Nat), n < x.length → n < y.length → n ≤ lcp x y → (n < lcp x y ↔ x[n]? = y[n]?)
  | [], _, n, h, _, _ => by simp at h
  | _ :: _, [], n, _, h, _ => by simp at h
  | a :: as, b :: bs, 0, _, _, _ => by
    unfold lcp
    split
    · rename_i h; subst h; simp
    · rename_i h; simp [h]
  | a :: as, b :: bs, n + 1, h1, h2, h3 => by
    unfold lcp at h3 ⊢
    split at h3
    · rename_i h
      rw [if_pos h]
      have := lcp_step as bs n (by simpa using h1) (by simpa using h2) (by omega)
      simp only [List.getElem?_cons_succ]
      rw [← this]
      omega
    · omega
theorem lcp_max : ∀ (x y p : List Nat), p <+: x → p <+: y → p.length ≤ lcp x y
  | x, y, [], _, _ => Nat.zero_le _
  | [], _, c :: p, h, _ => by simp at h
  | _ :: _, [], c :: p, _, h => by simp at h
  | a :: as, b :: bs, c :: p, h1, h2 => by
    rw [List.cons_prefix_cons] at h1 h2
    obtain ⟨e1, h1⟩ := h1
    obtain ⟨e2, h2⟩ := h2
    subst e1; subst e2
    unfold lcp
    rw [if_pos rfl]
    have := lcp_max as bs p h1 h2
    simp only [List.length_cons]; omega
theorem not_lt_cons {a b : Nat} {as bs : List Nat} (h : ¬ (a :: as < b :: bs)) : b < a ∨ (a = b ∧ ¬ as < bs) := by
  rw [List.cons_lt_cons_iff] at h
  by_cases e : a = b
  · exact .inr ⟨e, fun q => h (.inr ⟨e, q⟩)⟩
  · by_cases l : a < b
    · exact (h (.inl l)).elim
    · exact .inl (by omega)
/-- what lies between two lists begins as both do -/
theorem between : ∀ (lo hi w : List Nat), ¬ w < lo → ¬ hi < w → lo.take (lcp lo hi) <+: w
  | [], hi, w, _, _ => by simp
  | a :: as, [], w, _, _ => by simp [lcp]
  | a :: as, b :: bs, w, h1, h2 => by
    unfold lcp
    split
    · rename_i e
      subst e
      cases w with
      | nil => exact (h1 (by exact List.nil_lt_cons ..)).elim
      | cons c cs =>
        rcases not_lt_cons h1 with l | ⟨e, l⟩
        · rcases not_lt_cons h2 with l2 | ⟨e2, _⟩
          · omega
          · omega
        · subst e
          rcases not_lt_cons h2 with l2 | ⟨_, l2⟩
          · omega
          · rw [List.take_succ_cons, List.cons_prefix_cons]
            exact ⟨rfl, between as bs cs l l2⟩
    · simp
/-- the longest list with which all of some begin -/
structure IsPre (ws : List (List Nat)) (p : List Nat) : Prop where
  pre : ∀ w ∈ ws, p <+: w
  top : ∀ q, (∀ w ∈ ws, q <+: w) → q.length ≤ p.length
theorem IsPre.one {ws : List (List Nat)} {p q : List Nat} (hp : IsPre ws p) (hq : IsPre ws q) (hn : ws ≠ []) : p = q := by
  cases ws with
  | nil => exact absurd rfl hn
  | cons w ws =>
    have a := hp.pre w (List.mem_cons_self ..)
    have b := hq.pre w (List.mem_cons_self ..)
    have l1 := hp.top q hq.pre
    have l2 := hq.top p hp.pre
    exact (List.prefix_of_prefix_length_le a b l2).eq_of_length (by omega)
theorem IsPre.congr {ws us : List (List Nat)} {p : List Nat} (h : IsPre ws p) (e : ∀ w, w ∈ ws ↔ w ∈ us) : IsPre us p :=
  ⟨fun w hw => h.pre w ((e w).mpr hw), fun q hq => h.top q fun w hw => hq w ((e w).mp hw)⟩
/-- by the least and the greatest one -/
theorem isPre_ends {ws : List (List Nat)} {lo hi : List Nat} (h1 : lo ∈ ws) (h2 : hi ∈ ws) (h3 : ∀ w ∈ ws, ¬ w < lo) (h4 : ∀ w ∈ ws, ¬ hi < w) : IsPre ws (lo.take (lcp lo hi)) :=
  ⟨fun w hw => between lo hi w (h3 w hw) (h4 w hw), fun q hq => by
    rw [List.length_take, Nat.min_eq_left (lcp_le_left _ _)]
    exact lcp_max _ _ _ (hq _ h1) (hq _ h2)⟩
theorem isPre_two (x y : List Nat) : IsPre [x, y] (x.take (lcp x y)) :=
  ⟨fun w hw => by
    rcases List.mem_cons.mp hw with e | hw
    · rw [e]; exact List.take_prefix _ _
    · rw [List.mem_singleton.mp hw, lcp_take]; exact List.take_prefix _ _, fun q hq => by
    rw [List.length_take, Nat.min_eq_left (lcp_le_left _ _)]
    exact lcp_max _ _ _ (hq x (by simp)) (hq y (by simp))⟩
/-- the least one is ahead of all else: the greatest one is as long as that both are alike -/
theorem long_hi : ∀ (lo hi : List Nat) (n : Nat), ¬ hi < lo → n < lo.length → n ≤ lcp lo hi → n < hi.length
  | [], _, _, _, h, _ => by simp at h
  | a :: as, [], _, h, _, _ => (h (List.nil_lt_cons ..)).elim
  | a :: as, b :: bs, 0, _, _, _ => by simp
  | a :: as, b :: bs, n + 1, h, h1, h2 => by
    unfold lcp at h2
    split at h2
    · rename_i e
      subst e
      rcases not_lt_cons h with l | ⟨_, l⟩
      · omega
      · have := long_hi as bs n l (by simpa using h1) (by omega)
        simpa using this
    · omega
/-- the search by sizes: it ends where the next size is too long, or parts them -/
theorem isPre_search {ws : List (List Nat)} {w : List Nat} {n : Nat} (hw : w ∈ ws) (h1 : ∀ u ∈ ws, n ≤ u.length) (h2 : ∀ u ∈ ws, u.take n = w.take n)
    (h3 : (∀ u ∈ ws, n < u.length) → ∃ u ∈ ws, u.take (n + 1) ≠ w.take (n + 1)) : IsPre ws (w.take n) := by
  refine ⟨fun u hu => by rw [← h2 u hu]; exact List.take_prefix _ _, fun q hq => ?_⟩
  rw [List.length_take, Nat.min_eq_left (h1 w hw)]
  by_cases hlt : n < q.length
  · exfalso
    have len : ∀ u ∈ ws, n < u.length := fun u hu => Nat.lt_of_lt_of_le hlt (hq u hu).length_le
    obtain ⟨u, hu, ne⟩ := h3 len
    apply ne
    have e : ∀ v ∈ ws, v.take (n + 1) = q.take (n + 1) := fun v hv => by
      obtain ⟨t, rfl⟩ := hq v hv
      rw [List.take_append_of_le_length (by omega)]
    rw [e u hu, e w hw]
  · omega
end Sw
namespace Sw
open PySem PySem.Spec PyProof.Rows L2
/-! ### defs that are called where no repr is under way -/
structure FnG (P : Program) (w : World) (K : PySem.W.Frag) (mg : Str → Option Value) (base : Heap) (k : Nat) (f : Addr) (fd : FuncData) (ps : List Str) (sp : Sp) : Prop where
  len : ∀ vs H Q E, sp vs H Q E → vs.length = ps.length
  run : ∀ (A : Around) (out : List Env) (s : Shared) (H : Hp) (args : Args) (us : List Value) (vs : List V) (Q : VK) (E : XK), A.guards = some [] → Room k A → Env0 P w K mg base A out s H →
    BindsTo s fd args (ps.zip us) → Vals vs us → sp vs H Q E → codeAny (model P w) A (.call (.ref f) args) (CR CX0 out P w H s Q E) s
section
variable {P : Program} {w : World} {K : PySem.W.Frag} {mg : Str → Option Value} {base : Heap} {k : Nat} {f : Addr} {fd : FuncData} {ps : List Str} {sp : Sp}
theorem fng_ok (F : FnOk P w K mg base CX0 k f fd ps sp) : FnG P w K mg base k f fd ps sp :=
  ⟨F.len, fun A out s H args us vs Q E _ hr he hb hv h => F.run A out s H args us vs Q E hr he hb hv h⟩
/-- a def's body, told that no repr is under way -/
theorem fng_of {x q : Str} {pa : Arguments} {bo : List Stmt} {sc : Scope} {N : List Str} (F : FunD K x q pa bo sc [] [] f fd) (S : FnScope N ps sc) (hl : ∀ vs H Q E, sp vs H Q E → vs.length = ps.length)
    (hbo : ∀ (cv : Value) (A : Around) (out : List Env) (s : Shared) (H : Hp) (vs : List V) (Q : VK) (E : XK), A.guards = some [] → Room k (A.deeper (envOfC q sc s.heap.objs.size f cv)) → sp vs H Q E →
      ∃ t, PSs (cxOf CX0 P w K mg base N q sc f cv A out s H E) bo t ∧ t { nx := fun _ H' => Q .non H', rt := Q } (start N vs) H) : FnG P w K mg base (k + 1) f fd ps sp := by
  obtain ⟨oc, od, dV, kV, doc, pm, an, cv, ct, osl, rfl, lk, hco, _, _⟩ := F.ex
  refine ⟨hl, fun A out s H args us vs Q E hG hr he hb rv hs => ?_⟩
  have vl := hl _ _ _ _ hs
  have kin : K.In s.heap := he.mod.kin.keeps fun b o z => (he.bs b o z).1
  have nol : s.heap.NoLimit := he.mod.nolimit.keeps fun b o z => (he.bs b o z).1
  have knd : ∀ y ∈ ps.zip us, sc.names.lookup y.1 = some .local ∨ (sc.names.lookup y.1 = some .cell ∧ ((cellsFrom (s.heap.objs.size + 1) sc.names []).lookup y.1).isSome = true) := by
    intro y hy
    rcases S.par y.1 (List.of_mem_zip (show (y.1, y.2) ∈ ps.zip us from hy)).1 with z | z
    · exact .inl z
    · exact .inr ⟨z, PySem.W.cellsFrom_some _ _ _ (.inl z)⟩
  refine codeAny_call_function hr.depth (kin _ _ lk) rfl S.co S.gen rfl (PySem.W.codeRec_of kin hco) (hb _ _ _ _ ?_)
  refine wpAny_newFunctionEnv_cells S.kind knd fun env eq s1 z => ?_
  subst eq
  refine ⟨nol.keeps z.toInCall.keep, codeAny_func ?_⟩
  obtain ⟨t, ht, hq⟩ := hbo cv A out s H vs Q E hG (hr.deeper _) hs
  have J : Inv (cxOf CX0 P w K mg base N q sc f cv A out s H E) [] (start N vs) H s1 := inv_start S hr.hd he vl rv z
  refine wpAny_mono (ht.run [] s1 (start N vs) H _ J hq) (fun fl s2 hz => ?_) fun _ _ hz => hz
  have fin : ∀ {τ : L2.St} {H' : Hp} {v : V} {u : Value}, Inv (cxOf CX0 P w K mg base N q sc f cv A out s H E) [] τ H' s2 → RelV v u → Q v H' → CE out P w H s Q u s2 := by
    intro τ H' v u I r z
    exact ⟨v, H', I.os, I.bare, I.base, I.hok, r, z⟩
  cases fl with
  | ret u => obtain ⟨v, τ, H', I, r, z⟩ := hz; exact fin I r z
  | next => obtain ⟨τ, H', I, z⟩ := hz; exact fin (v := V.non) (u := Value.none) I rfl z
  | brk => obtain ⟨_, _, _, z⟩ := hz; exact z.elim
  | cont => obtain ⟨_, _, _, z⟩ := hz; exact z.elim
end
section
variable {X : Cx} {k : Nat} {f : Addr} {fd : FuncData} {ps : List Str} {sp : Sp} {x : Str} {p pos : Pos} {e : Expr} {es : List Expr} {ta : TA}
/-- a call of such a def -/
theorem pe_callG (hG : X.A.guards = some []) (F : FnG X.prog X.w X.K X.mg X.base k f fd ps sp) (hr : Room k X.A) (hg : Gl X x) (hm : X.mg x = some (.ref f)) (hk : PySem.W.keepIn X.K (.ref f) = true) (hb : Binds X.K fd ps [])
    (ha : PA X (e :: es) ta) (hd : (x == ("__debug__" : Str)) = false := by decide) (he : starEach (e :: es) X.env = (false, eval e X.env) :: starEach es X.env := by rfl)
    (hp : (backTo pos (starEach es X.env)).any (·.1) = false := by rfl) : PE X (.Call (.Name x p) (e :: es) [] pos) (fun σ H Q => ta σ H fun vs H1 => sp vs H1 Q E0) := by
  refine ⟨fun pins s σ H Q I h => wpAny_Call_Name_kw (ld_glob I hg hm ?_ hd)⟩
  refine PySem.W.callWith_K (h₀ := X.base) I.ok.mod.kin hk (thn (ha.run pos pins s σ H _ I h) fun us s1 ⟨vs, H1, J, r, q⟩ => ⟨J.kIn, ?_⟩) he hp
  have hl : (us ++ []).length = ps.length := by rw [List.append_nil, ← r.length]; exact F.len _ _ _ _ q
  have hbt : BindsTo s1 fd ⟨us, []⟩ (ps.zip us) := by
    have z := hb s1 us J.kIn hl
    rw [List.append_nil] at z
    exact z
  refine wpAny_call (codeAny_mono (F.run X.A X.stack s1 H1 ⟨us, []⟩ us vs Q E0 hG hr J.env0 hbt r q) fun r' s2 hz => ?_)
  cases r' with
  | error er => exact False.elim hz
  | ok fl =>
    cases fl with
    | ret u => exact J.after hz
    | next => exact False.elim hz
    | brk => exact False.elim hz
    | cont => exact False.elim hz
end
/-! ### the law's own call -/
theorem lawG_call {P : Program} {w : World} {K : PySem.W.Frag} {mg mb : Str → Option Value} {k : Nat} {fa a : Addr} {fd : FuncData} {x : Str} {sp : Sp} {s₁ : Shared} {vs : List Value} {ns : List Int}
    (kin : K.In s₁.heap) (hns : s₁.heap.Ns mainGlobals mg) (hb : s₁.heap.Ns builtinsNs mb) (hbb : ∀ x : Str, x ≠ "__name__" → mb x = bootBuiltins x) (nol : s₁.heap.NoLimit) (hg : s₁.gens = #[])
    (ha : s₁.heap.get? a = some { cls := .type "list", data := .seq vs.toArray }) (hi : IntsAre vs ns) (hl : ns.length ≤ sizeLine) (hr : Room k callerA)
    (F : ∀ base : Heap, K.In base → base.Ns mainGlobals mg → FnG P w K mg base k fa fd [x] sp) (hbd : ∀ (s : Shared) (u : Value), BindsTo s fd ⟨[u], []⟩ [(x, u)])
    (hsp : ∀ H : Hp, Only H → SqL K H a (ns.map V.int) → sp [.ref a] H (fun v _ => v = .bl true) fun _ _ _ => False) :
    codeAny (model P w) callerA (.call (.ref fa) ⟨[.ref a], []⟩) (fun r s' => r = .ok (.ret (.bool true)) ∧ OldK s₁.heap s'.heap ∧ s'.os = s₁.os ∧ AllBare s'.gens) s₁ := by
  have rv := vals_ints hi
  have lv := hi.length
  have core : ∀ H : Hp, Only H → SqL K H a (ns.map V.int) → HOk P w H s₁.heap → (∀ b, H b ≠ none → b = a) → (H a ≠ none → K.lookup a = none) →
      codeAny (model P w) callerA (.call (.ref fa) ⟨[.ref a], []⟩) (fun r s' => r = .ok (.ret (.bool true)) ∧ OldK s₁.heap s'.heap ∧ s'.os = s₁.os ∧ AllBare s'.gens) s₁ := by
    intro H hO hS hok hA hK
    have one : ∀ {b : Addr} {u : HO}, H b = some u → b = a := fun {b u} z => hA b (by rw [z]; exact fun n => by cases n)
    have free : ∀ {b : Addr} {o : Obj} {es : Array DictEntry} {ep : Nat}, s₁.heap.get? b = some o → o.data = .dict es ep → H b = none := by
      intro b o es ep z d
      cases q : H b with
      | none => rfl
      | some u =>
        have e := one q
        subst e
        rw [ha] at z
        cases z
        have d2 : Data.seq vs.toArray _ = Data.dict es ep := d
        cases d2
    have nsB : ∀ {b : Addr} {m : Str → Option Value}, s₁.heap.Ns b m → (hidT s₁.heap H).Ns b m := fun {b m} ⟨o, es, ep, z, d, r⟩ => ⟨o, es, ep, hidT_get z (free z d), d, r⟩
    have kB : K.In (hidT s₁.heap H) := fun b o z => by
      refine hidT_get (kin b o z) ?_
      cases q : H b with
      | none => rfl
      | some u =>
        have e := one q
        subst e
        rw [hK (by rw [q]; exact fun n => by cases n)] at z
        cases z
    have mB : Mod K mg (hidT s₁.heap H) := ⟨kB, nsB hns, ⟨mb, nsB hb, hbb⟩, let ⟨mc, z1, z2⟩ := nol; ⟨mc, nsB z1, z2⟩⟩
    have e0 : Env0 P w K mg (hidT s₁.heap H) callerA [] s₁ H :=
      ⟨rfl, mB, fun b o z => of_hidT z, Nat.le_of_eq (hidT_size _ _), trivial, fun b z => absurd (show b ∈ ([] : List Addr) from z) (by simp), hok, .of_eq hg⟩
    refine codeAny_mono ((F _ kB (nsB hns)).run callerA [] s₁ H ⟨[.ref a], []⟩ [.ref a] [.ref a] _ _ rfl hr e0 (hbd s₁ (.ref a)) (.cons rfl .nil) (hsp H hO hS)) fun r s' z => ?_
    cases r with
    | error e => exact False.elim z
    | ok fl =>
      cases fl with
      | next => exact False.elim z
      | brk => exact False.elim z
      | cont => exact False.elim z
      | ret u =>
        obtain ⟨v, H', os, bare, un, hok', r', q⟩ := z
        have q2 : v = .bl true := q
        subst q2
        obtain rfl : u = Value.bool true := r'
        refine ⟨rfl, OldK.of_keep fun b o z => ?_, os, bare⟩
        cases q : H b with
        | none => exact un.keep b o z q (fun n => absurd (show b ∈ ([] : List Addr) from n) (by simp)) (by simp)
        | some u =>
          rcases hO b with n | ⟨ob, xs, n⟩
          · rw [q] at n; cases n
          · obtain ⟨e1, _⟩ := hok b _ n
            obtain ⟨e2, _⟩ := hok' b _ (un.frzs b ob _ n)
            rw [z] at e1
            cases e1
            exact e2
  cases hk : K.lookup a with
  | some o =>
    have z := kin a o hk
    rw [ha] at z
    cases z
    exact core (fun _ => none) (fun _ => .inl rfl) (.inr ⟨_, vs.toArray, _, hk, rfl, rfl, rfl, by rw [List.size_toArray, lv]; exact hl, by simpa using rv⟩) (fun b u n => by have m : (none : Option HO) = some u := n; cases m)
      (fun b n => absurd rfl n) fun n => absurd rfl n
  | none =>
    refine core (fun b => if b = a then some (.frz { cls := .type "list", data := .seq vs.toArray } (.lst (ns.map V.int))) else none) (fun b => ?_) (.inl (.inr ⟨{ cls := .type "list", data := .seq vs.toArray }, if_pos rfl⟩)) (fun b u n => ?_) (fun b n => ?_) fun _ => hk
    · by_cases e : b = a
      · exact .inr ⟨_, _, if_pos e⟩
      · exact .inl (if_neg e)
    · by_cases e : b = a
      · have m := (if_pos e).symm.trans n
        cases m
        subst e
        exact ⟨ha, by rw [List.length_map]; exact hl, vs, _, rv, ha⟩
      · have m := (if_neg e).symm.trans n
        cases m
    · by_cases e : b = a
      · exact e
      · exact absurd (if_neg e) n
theorem walkG {l : PySem.W.OpenLaw} {n k : Nat} {q : Program} {loose : List Str} {XP : (Str → Option Value) → Heap → Prop} {YP : World → Heap → Prop} {d : DefRec} {x : Str}
    (hn : l.most = some n) (hz : n ≤ sizeLine) (hd : d.params.defaults = []) (hr : Room k callerA)
    (F : ∀ (w : World) (mg : Str → Option Value) (fa : Addr) (h : Heap), YP w h → h.Ns mainGlobals mg → mg d.name = some (.ref fa) → ∃ (K : PySem.W.Frag) (fd : FuncData) (sp : Sp), K.In h ∧ (∀ (s : Shared) (u : Value), BindsTo s fd ⟨[u], []⟩ [(x, u)]) ∧
      (∀ (H : Hp) (a : Addr) (ns : List Int), ns.length ≤ n → Only H → SqL K H a (ns.map V.int) → sp [.ref a] H (fun v _ => v = .bl true) fun _ _ _ => False) ∧ ∀ base : Heap, K.In base → base.Ns mainGlobals mg → FnG l.prog w K mg base k fa fd [x] sp) :
    PySem.W.WalkO q loose XP YP l.row.toRowW d [] (fun f vs => PySem.call f vs) := by
  refine Att.attach_call hn hd fun w s₀ s₁ mg mb fa o pm cd doc a vs ns G Y _ _ _ hm hob hin hle hge => ?_
  obtain ⟨K, fd, sp, kin, hb, hs, hF⟩ := F w mg fa _ Y G.T.g hm
  exact lawG_call kin G.T.g G.T.b G.T.builtins G.T.nolimit hge hob hin (Nat.le_trans hle hz) hr hF hb fun H hO hS => hs H a ns hle hO hS
end Sw
namespace Sw
open PySem PySem.Spec PyProof.Rows L2
/-! ### repr -/
mutual
theorem nodict {K : PySem.W.Frag} {H : Hp} : ∀ (d : PyData) (v : V), Dp K H v d → d.hasDict = false
  | .none, _, _ => by simp only [PyData.hasDict]
  | .bool _, _, _ => by simp only [PyData.hasDict]
  | .int _, _, _ => by simp only [PyData.hasDict]
  | .str _, _, _ => by simp only [PyData.hasDict]
  | .list ds, _, h => by
    cases h with
    | lst _ ha => simpa only [PyData.hasDict] using nodictAll ds _ ha
  | .tuple ds, _, h => by
    cases h with
    | tup _ ha => simpa only [PyData.hasDict] using nodictAll ds _ ha
  | .dict _, _, h => by cases h
theorem nodictAll {K : PySem.W.Frag} {H : Hp} : ∀ (ds : List PyData) (vs : List V), DpAll K H vs ds → PyData.hasDictAll ds = false
  | [], _, _ => by simp only [PyData.hasDictAll]
  | d :: ds, _, h => by
    cases h with
    | cons h1 h2 =>
      simp only [PyData.hasDictAll, nodict d _ h1, nodictAll ds _ h2, Bool.or_self]
end
section
variable {X : Cx}
theorem call_reprD (hG : X.A.guards = some []) (hu : X.A.units + 64 < cLine) : CallR X (.builtin "repr") (fun xs H Q => ∃ x d, xs = [x] ∧ Dp X.K H x d ∧ d.showable = true ∧ d.depth ≤ 60 ∧ d.shown.length ≤ sizeLine ∧ Q (.str d.shown) H) := by
  intro pins s σ H xs us Q I r h
  obtain ⟨x, d, rfl, hd, hs, hdp, hz, q⟩ := h
  cases r with
  | cons r1 rt =>
    cases rt
    have nd := nodict d x hd
    cases d with
    | none => cases hd; cases r1; exact P.repr_of_none ⟨.str _, H, I.tok _, ⟨_, rfl⟩, q⟩
    | bool b => cases hd; cases r1; exact P.repr_of_bool ⟨.str _, H, I.tok _, ⟨_, rfl⟩, q⟩
    | int i =>
      cases hd
      obtain ⟨t, rfl⟩ := r1
      exact P.repr_of_int (by simpa [PyData.showable] using hs) ⟨.str _, H, I.tok _, ⟨_, rfl⟩, q⟩
    | str z =>
      cases hd
      obtain ⟨t, rfl⟩ := r1
      exact P.repr_of_str ⟨.str _, H, I.tok _, ⟨_, rfl⟩, q⟩ hz
    | dict _ => cases hd
    | list ds =>
      have hd0 := hd
      cases hd0 with
      | lst h1 h2 =>
        obtain ⟨as, rd⟩ := Dp.reads I _ _ _ hd r1
        cases r1
        exact repr_of_reads' rd hs (fun z => by rw [nd] at z; cases z) hG (by omega) (fun _ _ z => z) (fun h' u tk k => ⟨.str _, H, I.kept (t' := tk) k, ⟨_, rfl⟩, q⟩) hz
    | tuple ds =>
      have hd0 := hd
      cases hd0 with
      | tup h1 h2 =>
        obtain ⟨as, rd⟩ := Dp.reads I _ _ _ hd r1
        cases r1
        exact repr_of_reads' rd hs (fun z => by rw [nd] at z; cases z) hG (by omega) (fun _ _ z => z) (fun h' u tk k => ⟨.str _, H, I.kept (t' := tk) k, ⟨_, rfl⟩, q⟩) hz
/-- repr({}) -/
theorem call_repr0 (hG : X.A.guards = some []) (hu : X.A.units + 64 < cLine) : CallR X (.builtin "repr") (fun xs H Q => ∃ a, xs = [.ref a] ∧ H a = some (.dK []) ∧ Q (.str (PyData.shown (.dict []))) H) := by
  intro pins s σ H xs us Q I r h
  obtain ⟨a, rfl, ha, q⟩ := h
  cases r with
  | cons r1 rt =>
    cases rt
    cases r1
    obtain ⟨_, hsm, vs, kv, o, es, ep, ho, hex, hd, _, he, _⟩ := I.hok a _ ha
    cases kv
    have he' : es.toList = [] := by
      generalize es.toList = l at he ⊢
      cases he
      rfl
    have rd : Reads s.heap (.ref a) (.dict []) (a :: [] ++ []) := by
      refine Reads.dict (kvs := []) ho hex.1 hd ?_ ?_
      · rw [he']; exact .nil
      · rw [he']; exact .nil
    refine repr_of_reads' rd (by decide) (fun _ hm => ?_) hG (by have z : PyData.depth (.dict []) = 1 := (by decide); rw [z]; omega) (fun _ _ z => z) (fun h' u tk k => ⟨.str _, H, I.kept (t' := tk) k, ⟨_, rfl⟩, q⟩) (by decide)
    have : sysModules = a := by simpa using hm
    rw [this] at hsm
    simp at hsm
end
/-! ### the least, the greatest of texts -/
section
variable {X : Cx}
theorem holds_vals {P : Program} {w : World} {h : Heap} : ∀ {xs : List Str} {us : List Value}, Vals (xs.map V.str) us → PySem.W.HoldAll h us xs
  | [], _, .nil => PySem.W.HoldAll.nil
  | x :: xs, _, .cons r t => by
    obtain ⟨k, rfl⟩ := r
    exact PySem.W.HoldAll.cons (PySem.W.holds_str x k) (holds_vals (P := P) (w := w) t)
theorem cr_minS (hc : X.calm = true) (hu : X.A.units + 64 < cLine) : CallR X (.builtin "min") (fun vs H Q => ∃ (a : Addr) (x : Str) (xs : List Str), vs = [.ref a] ∧ SqT X.K H a ((x :: xs).map V.str) ∧ Q (.str (PySem.W.minOf x xs)) H) := by
  intro pins s σ H vs us Q I r h
  obtain ⟨a, x, xs, rfl, hx, q⟩ := h
  cases r with
  | cons r1 rt =>
    cases rt
    cases r1
    obtain ⟨its, rv, ⟨o, ho, hcl, n, hd⟩, _⟩ := I.tuple hx
    have hd0 : PySem.W.Datum.depth Str = 0 := rfl
    refine PySem.W.min_tuple_datum (vs := its.toArray) (I.ok.hd hc) ⟨o, ho, hcl, n, hd⟩ (holds_vals (P := X.prog) (w := X.w) (by simpa using rv)) (by rw [hd0]; omega) fun i v h' tk hi hh k => ?_
    obtain ⟨t, rfl⟩ := PySem.W.str_of_holds hh
    exact ⟨.str _, H, I.kept (t' := tk) k, ⟨_, rfl⟩, q⟩
theorem cr_maxS (hc : X.calm = true) (hu : X.A.units + 64 < cLine) : CallR X (.builtin "max") (fun vs H Q => ∃ (a : Addr) (x : Str) (xs : List Str), vs = [.ref a] ∧ SqT X.K H a ((x :: xs).map V.str) ∧ Q (.str (PySem.W.maxOf x xs)) H) := by
  intro pins s σ H vs us Q I r h
  obtain ⟨a, x, xs, rfl, hx, q⟩ := h
  cases r with
  | cons r1 rt =>
    cases rt
    cases r1
    obtain ⟨its, rv, ⟨o, ho, hcl, n, hd⟩, _⟩ := I.tuple hx
    have hd0 : PySem.W.Datum.depth Str = 0 := rfl
    refine PySem.W.max_tuple_datum (vs := its.toArray) (I.ok.hd hc) ⟨o, ho, hcl, n, hd⟩ (holds_vals (P := X.prog) (w := X.w) (by simpa using rv)) (by rw [hd0]; omega) fun i v h' tk hi hh k => ?_
    obtain ⟨t, rfl⟩ := PySem.W.str_of_holds hh
    exact ⟨.str _, H, I.kept (t' := tk) k, ⟨_, rfl⟩, q⟩
end
/-! ### list(text), text * int -/
section
variable {X : Cx}
theorem signs_vals : ∀ (l : List Nat) (us : List Value), us.length = l.length → (∀ (i : Nat) (c : Nat), l[i]? = some c → ∃ t, us[i]? = some (Value.str ⟨#[c]⟩ t)) → Vals (l.map fun c => V.str ⟨#[c]⟩) us
  | [], [], _, _ => .nil
  | [], _ :: _, h, _ => by simp at h
  | _ :: _, [], h, _ => by simp at h
  | c :: l, u :: us, h, e => by
    obtain ⟨t, et⟩ := e 0 c rfl
    have : u = Value.str ⟨#[c]⟩ t := by simpa using et
    exact .cons ⟨t, this⟩ (signs_vals l us (by simpa using h) fun i c' hc => by simpa using e (i + 1) c' (by simpa using hc))
theorem call_listS (hc : X.calm = true) : CallR X (.type "list") (fun xs H Q => ∃ z : Str, xs = [.str z] ∧ z.cps.size ≤ sizeLine ∧ ∀ p, H p = none → Q (.ref p) (upd H p (.lst (z.cps.toList.map fun c => V.str ⟨#[c]⟩)))) := by
  intro pins s σ H xs us Q I r h
  obtain ⟨z, rfl, hz, q⟩ := h
  cases r with
  | cons r1 rt =>
    cases rt
    obtain ⟨t, rfl⟩ := r1
    refine call_list_str (I.ok.hd hc) z t (fun h' tk acc c k ho hi => ?_) hz
    obtain ⟨hi1, hi2⟩ := hi
    refine ⟨.ref s.heap.objs.size, _, I.laid (t' := tk) (o := .lst (z.cps.toList.map fun c => V.str ⟨#[c]⟩)) k (Nat.le_refl _) ⟨by rw [List.length_map, Array.length_toList]; exact hz, acc.toList, c, ?_, by simpa using ho⟩, rfl, q _ (I.hok.fresh (Nat.le_refl _))⟩
    refine signs_vals _ _ (by rw [Array.length_toList, Array.length_toList]; exact hi1) fun i c' hc' => ?_
    have hlt : i < acc.size := by
      rw [hi1]
      rw [Array.getElem?_toList] at hc'
      exact (Array.getElem?_eq_some_iff.mp hc').1
    obtain ⟨c2, u, e1, e2⟩ := hi2 i acc[i] (Array.getElem?_eq_some_iff.mpr ⟨hlt, rfl⟩)
    rw [Array.getElem?_toList] at hc'
    rw [e1] at hc'
    have ec : c2 = c' := Option.some.inj hc'
    subst ec
    exact ⟨u, by rw [Array.getElem?_toList, Array.getElem?_eq_some_iff.mpr ⟨hlt, rfl⟩, e2]⟩
end
end Sw
namespace Sw
open PySem PySem.Spec PyProof.Rows L2
/-! ### text * int -/
theorem foldl_cat (a : Array Nat) : ∀ (k : Nat) (b : Array Nat), ((List.replicate k a).foldl (· ++ ·) b).size = b.size + k * a.size
  | 0, b => by simp
  | k + 1, b => by
    rw [List.replicate_succ, List.foldl_cons, foldl_cat a k (b ++ a), Array.size_append, Nat.succ_mul]
    omega
section
variable {X : Cx}
theorem op_mulS : OpR X (binaryOp .Mult) (fun x y H Q => ∃ (z : Str) (k : Int), x = .str z ∧ y = .int k ∧ 2 ≤ k ∧ k ≤ 1000 ∧ 1 ≤ z.length ∧ z.length ≤ 1000 ∧ ∀ u : Str, u.length = k.toNat * z.length → Q (.str u) H) := by
  intro pins s σ H x y v u Q I rx ry h
  obtain ⟨z, k, rfl, rfl, h1, h2, h3, h4, q⟩ := h
  obtain ⟨t, rfl⟩ := rx
  obtain ⟨t', rfl⟩ := ry
  have hk : z.length * k.toNat ≤ 1000000 := by
    have : k.toNat ≤ 1000 := by omega
    calc z.length * k.toNat ≤ 1000 * 1000 := Nat.mul_le_mul h4 this
      _ = 1000000 := rfl
  have e0 : (k == 1 || z.length == 0) = false := by
    rw [Bool.or_eq_false_iff]
    exact ⟨beq_eq_false_iff_ne.mpr (by omega), beq_eq_false_iff_ne.mpr (by omega)⟩
  refine P.mul_str ?_ (fun _ _ => ?_) (fun _ _ => ?_) ?_
  · have a1 : ¬ k < -(2 ^ 63 : Int) := by omega
    have a2 : ¬ k ≥ 2 ^ 63 := by omega
    rw [decide_eq_false a1, decide_eq_false a2]; rfl
  · have b1 : (1000 : Int) ≤ (2 ^ 63 - 1) / k := by
      rw [Int.le_ediv_iff_mul_le (by omega)]
      have : 1000 * k ≤ 1000000 := by omega
      omega
    omega
  · have : (sizeLine : Nat) ≥ 1000000 := by decide
    unfold Builtin.Str.tooLong
    simp only [decide_eq_false_iff_not]
    omega
  · rw [if_neg (show ¬ k < 1 by omega), e0]
    simp only [Bool.false_eq_true, if_false]
    have hlen : (⟨(List.replicate k.toNat z.cps).foldl (· ++ ·) #[]⟩ : Str).length = k.toNat * z.length := by
      show ((List.replicate k.toNat z.cps).foldl (· ++ ·) #[]).size = _
      rw [foldl_cat]
      show 0 + k.toNat * z.cps.size = k.toNat * z.cps.size
      omega
    refine ⟨?_, .str _, H, I.tok _, ⟨_, rfl⟩, q _ hlen⟩
    rw [hlen, Nat.mul_comm]
    have : (sizeLine : Nat) ≥ 1000000 := by decide
    omega
end
/-! ### set of a list of texts -/
/-- each once, as they are met -/
def once (xs : List Str) : List Str := xs.foldl (fun a x => if a.any (· == x) then a else a ++ [x]) []
theorem once_snoc (xs : List Str) (x : Str) : once (xs ++ [x]) = if (once xs).any (· == x) then once xs else once xs ++ [x] := by
  unfold once; rw [List.foldl_append]; rfl
theorem once_le : ∀ (n : Nat) (xs : List Str), xs.length = n → (once xs).length ≤ n
  | 0, xs, h => by rw [List.eq_nil_of_length_eq_zero h]; exact Nat.le_refl _
  | n + 1, xs, h => by
    obtain ⟨ys, y, rfl⟩ : ∃ ys y, xs = ys ++ [y] := ⟨xs.dropLast, xs.getLast (by intro e; rw [e] at h; cases h), (List.dropLast_concat_getLast _).symm⟩
    rw [List.length_append, List.length_singleton] at h
    have ih := once_le n ys (by omega)
    rw [once_snoc]
    split
    · omega
    · rw [List.length_append, List.length_singleton]; omega
section
variable {prog : Program} {w : World} {A : Around} {R : Result → Shared → Prop} {J : Addr} {fp wr : List Addr} {G : Array GenState → Array GenState → Prop} {n : Nat} {P : Nat → Value → Prop} {St : Nat → Shared → Prop}
theorem take_snoc {xs : List Str} {i : Nat} (h : i < xs.length) : xs.take (i + 1) = xs.take i ++ [xs.getD i Str.empty] := by
  rw [List.take_succ, List.getD_eq_getElem?_getD, List.getElem?_eq_getElem h]; rfl
theorem setLoop (W : WalksS prog w A.in1 J fp wr G n P St) (S : Addr) (hS0 : S ∉ fp) (xs : List Str) (hxn : xs.length = n) (hn : n + 1 < scanBound) (hv : ∀ i v, P i v → ∃ t, v = .str (xs.getD i Str.empty) t) :
    ∀ (k i : Nat) (s : Shared), n - i = k → i ≤ n → St i s → s.heap.SetOf (strKind prog w) S (fun y => (once (xs.take i)).any (· == y)) (once (xs.take i)).length →
      (∀ s', Moved (S :: wr) G s s' → s'.heap.SetOf (strKind prog w) S (fun y => (once xs).any (· == y)) (once xs).length → R (.ok (.ret .none)) s') →
      codeAny (model prog w) A (.builtin "set.update.loop" ⟨[.ref S, .ref J], []⟩) R s := by
  have notW : S ∉ wr := fun z => hS0 (W.sub _ z)
  have more : ∀ b ∈ wr, b ∈ S :: wr := fun b z => List.mem_cons_of_mem _ z
  intro k
  induction k with
  | zero =>
    intro i s hk hi hst hS hR
    obtain rfl : i = n := by omega
    refine codeAny_builtin (b := Builtin.«set.update.loop») PyProof.Rows.F.entry_set_update_loop ?_
    rw [show A.under (.builtin "set.update.loop" ⟨[.ref S, .ref J], []⟩) = A.in1 from Around.under_plainId PyProof.Rows.F.plain_set_update_loop _]
    show wpAny (model prog w) A.in1 (pyNext (.ref J) >>= _) _ _ s
    refine wpAny_bind (W.done s _ _ hst fun s2 m => ?_)
    show wpAny (model prog w) A.in1 (ret Value.none) _ _ s2
    refine wpAny_pure (hR s2 (m.mono more) ?_)
    rw [List.take_of_length_le (by omega)] at hS
    obtain ⟨o, es, ep, t, ho, q⟩ := hS
    exact ⟨o, es, ep, t, m.heap S _ notW ho, q⟩
  | succ k ih =>
    intro i s hk hi hst hS hR
    have lt : i < n := by omega
    refine codeAny_builtin (b := Builtin.«set.update.loop») PyProof.Rows.F.entry_set_update_loop ?_
    rw [show A.under (.builtin "set.update.loop" ⟨[.ref S, .ref J], []⟩) = A.in1 from Around.under_plainId PyProof.Rows.F.plain_set_update_loop _]
    show wpAny (model prog w) A.in1 (pyNext (.ref J) >>= _) _ _ s
    refine wpAny_bind (W.item i s _ _ lt hst fun v s2 hP hst2 m => ?_)
    obtain ⟨t, rfl⟩ := hv i v hP
    have hS2 : s2.heap.SetOf (strKind prog w) S (fun y => (once (xs.take i)).any (· == y)) (once (xs.take i)).length := by
      obtain ⟨o, es, ep, tb, ho, q⟩ := hS
      exact ⟨o, es, ep, tb, m.heap S _ notW ho, q⟩
    show wpAny (model prog w) A.in1 (holding [Value.str (xs.getD i Str.empty) t] (setAdd S (.str (xs.getD i Str.empty) t)) >>= _) _ _ s2
    refine wpAny_bind (wpAny_holding ?_)
    unfold setAdd
    refine wpAny_holding (wpAny_bind ((strKind prog w).pyHash (k := xs.getD i Str.empty) (strKind_is _ _ _ _) ?_))
    have room : (once (xs.take i)).length + 1 < scanBound := by
      have := once_le i (xs.take i) (by rw [List.length_take]; omega)
      omega
    refine wpAny_setAddHashed_of (knd := strKind prog w) (s := { s2 with toks := s2.toks + 1 }) (strKind_is _ _ _ _) rfl hS2 room fun h' sb hN => ?_
    have hNi : h'.SetOf (strKind prog w) S (fun y => (once (xs.take (i + 1))).any (· == y)) (once (xs.take (i + 1))).length := by
      refine SetOf_congr hN (fun y => ?_) ?_
      · rw [take_snoc (by omega), once_snoc]
        by_cases e : (once (xs.take i)).any (· == xs.getD i Str.empty) = true
        · rw [if_pos e]
          by_cases ey : y = xs.getD i Str.empty
          · subst ey; rw [e]; simp
          · rw [decide_eq_false ey, Bool.or_false]
        · rw [if_neg e, List.any_append]
          by_cases ey : y = xs.getD i Str.empty
          · subst ey; simp
          · have ne : (xs.getD i Str.empty == y) = false := by simpa [beq_iff_eq] using fun z : xs.getD i Str.empty = y => ey z.symm
            simp only [List.any_cons, List.any_nil, ne, Bool.or_false, decide_eq_false ey]
      · rw [take_snoc (by omega), once_snoc]
        split
        · rfl
        · rw [List.length_append]; rfl
    refine wpAny_pure ⟨plainId_quiet PyProof.Rows.F.plain_set_update_loop _, ih (i + 1) _ (by omega) lt (W.frame _ s2 _ _ hst2 (Nat.le_succ _) fun b hb o z => ?_) hNi fun s3 m3 hS3 => ?_⟩
    · rw [sb.2 b (fun z2 : b = S => hS0 (by rw [← z2]; exact hb))]; exact z
    · refine hR s3 (Moved.trans W.gtrans ((m.mono more).then_heap (Nat.le_succ _) fun b o hb z => ?_) m3) hS3
      rw [sb.2 b (fun z2 : b = S => hb (by rw [z2]; exact List.mem_cons_self))]; exact z
end
/-- a set as it is made -/
abbrev bare (led : Bool) : Obj := { cls := .type "set", dict := none, data := .set #[] 0 (.fresh 0 0 led) }
section
variable {w : World} {A : Around} {s : Shared} {prog : Program} {E : Value → Shared → Prop}
theorem set_of_texts {l : Addr} {items : Array Value} {xs : List Str} {Q : Value → Shared → Prop}
    (hh : A.handled = none) (hl : s.heap.IsList l items) (hi : StrsAre items.toList xs) (hn : items.size + 1 < scanBound)
    (h : ∀ (h' : Heap) (tk : Nat), h'.SetOf (strKind prog w) s.heap.objs.size (fun y => (once xs).any (· == y)) (once xs).length →
      (∀ b o, b < s.heap.objs.size → s.heap.get? b = some o → h'.get? b = some o) → Q (.ref s.heap.objs.size) { s with heap := h', toks := tk }) :
    wpAny (model prog w) A (call (.type "set") [.ref l]) Q E s := by
  have hxs : xs.length = items.size := by rw [← hi.length, Array.length_toList]
  obtain ⟨c, tl, mr⟩ := PySem.F.called_set.mro
  have mk0 := PySem.F.called_set.made
  have sb0 := PySem.F.called_set.sub
  refine wpAny_call (codeAny_of_tree (show wpAny _ _ (callAny (.type "set") _) _ _ _ from ?_))
  refine wpAny_pure ⟨Code.quiet_builtin _ (by decide +kernel), codeAny_builtin PySem.F.entry_type_call ?_⟩
  rw [Around.under_plain (weight_type_call_type "set" [.ref l] []) rfl]
  have h1 := PySem.F.called_set.notType
  have h2 := PySem.F.called_set.canCreate
  have tc0 := PySem.F.typeCall_set_1 (.ref l)
  repeat (any_goals (first | assumption | wp_step))
  refine codeAny_mono (code_set_new_1 (.ref l) (E := E) (Q₁ := fun ob s₁ => ∃ led : Bool, ob = .ref s.heap.objs.size ∧ s₁ = { s with heap := s.heap.push (bare led) }) fun led => ⟨led, rfl, rfl⟩) fun r s₁ hr => ?_
  cases r with
  | error e => exact hr
  | ok fl =>
    cases fl with
    | ret ob =>
      obtain ⟨led, rfl, rfl⟩ := hr
      have zS : (s.heap.push (bare led)).get? s.heap.objs.size = some (bare led) := Heap.get?_push_size _ rfl
      have zT : Shared.TypeIs { s with heap := s.heap.push (bare led) } (.ref s.heap.objs.size) "set" := ⟨_, zS, rfl⟩
      have ini := PySem.F.called_set.init.lookup
      have bnd := PySem.F.called_set.init.bind (.ref s.heap.objs.size)
      repeat (any_goals (first | assumption | wp_step))
      refine codeAny_mono (codeAny_call_builtin (R := wants (fun r t2 => r = .none ∧ ∃ h' tk, t2 = { s with heap := h', toks := tk } ∧ h'.SetOf (strKind prog w) s.heap.objs.size (fun y => (once xs).any (· == y)) (once xs).length ∧
          (∀ b o, b < s.heap.objs.size → s.heap.get? b = some o → h'.get? b = some o)) E) PySem.F.called_set.init.plain PySem.F.entry_set_init (check_set_init_1 zT ?_)) fun r2 t2 z₂ => ?_
      · obtain ⟨obL, atL, clL, nL, dtL⟩ := hl
        obtain ⟨k1, k2, k3, k4⟩ := obL
        simp only at clL dtL
        subst clL; subst dtL
        have atL2 : (s.heap.push (bare led)).get? l = some { cls := .type "list", dict := k2, data := .seq items nL, slots := k4 } := Heap.get?_push_of_some _ atL
        have sub1 := PySem.F.sub_list_set
        have sub2 := PySem.F.sub_list_frozenset
        have dne : (Value.type "list" == Value.type "dict") = false := by decide
        have lst1 : (s.heap.push (bare led)).IsList l items := ⟨_, atL2, rfl, nL, rfl⟩
        unfold Builtin.«set.__init__» noKeywords Builtin.Frozenset.updateFrom
        generalize hide : pyIter = IT
        wp_walk
        subst hide
        refine wpAny_pyIter_list lst1 ?_
        refine wpAny_bind (wpAny_runValue ?_)
        have ltS : l < s.heap.objs.size := Heap.lt_size atL
        have calm3 : A.in1.in1.in1.handled = none := by simp [hh]
        have apart : l ≠ (s.heap.push (bare led)).objs.size := by
          rw [Heap.size_push]; exact Nat.ne_of_lt (Nat.lt_succ_of_lt ltS)
        have nofp : s.heap.objs.size ∉ [(s.heap.push (bare led)).objs.size, l] := by
          rw [Heap.size_push]; simp only [List.mem_cons, List.mem_singleton, List.not_mem_nil, or_false, not_or]
          exact ⟨Nat.ne_of_lt (Nat.lt_succ_self _), Nat.ne_of_gt ltS⟩
        have told : ∀ (i : Nat) (v : Value), items[i]? = some v → ∃ t, v = .str (xs.getD i Str.empty) t := fun i v hv => SS.strs_at hi i v (by rw [Array.getElem?_toList]; exact hv)
        refine setLoop ((Walks.list calm3 _ l apart items).toS) s.heap.objs.size nofp xs hxs hn told (items.size - 0) 0 _ (by omega) (Nat.zero_le _)
          ⟨⟨_, Heap.get?_push_size _ rfl, rfl, rfl⟩, (lst1.push _)⟩ ?c1 ?c2
        case c1 =>
          have atS : ((s.heap.push (bare led)).push { cls := .type "list_iterator", data := .fields #[.ref l, .int 0 0] }).get? s.heap.objs.size
              = some (bare led) := Heap.get?_push_of_some _ zS
          exact SetOf_congr ((setObjOf_fresh (knd := strKind prog w) led).setOf atS (by unfold scanBound; omega)) (fun _ => rfl) rfl
        case c2 =>
          intro s' mv zS2
          obtain ⟨h', g', d', tk', os'⟩ := s'
          have qg : g' = s.gens := mv.gens
          have qd : d' = s.drawn := mv.drawn
          have qo : os' = s.os := mv.os
          subst qg; subst qd; subst qo
          show wpAny _ _ _ _ _ _
          refine wpAny_pure ?_
          show wpAny _ _ (ret Value.none) _ _ _
          refine wpAny_pure ⟨rfl, h', tk', rfl, zS2, fun b o hb e => ?_⟩
          have ne1 : b ≠ s.heap.objs.size := Nat.ne_of_lt hb
          have ne2 : b ≠ (s.heap.push (bare led)).objs.size := by
            rw [Heap.size_push]; exact Nat.ne_of_lt (Nat.lt_succ_of_lt hb)
          exact mv.heap b o (by simp only [List.mem_cons, List.mem_singleton, List.not_mem_nil, or_false, not_or]; exact ⟨ne1, ne2⟩) (Heap.get?_push_of_some _ (Heap.get?_push_of_some _ e))
      · cases r2 with
        | error e => exact z₂
        | ok fl₂ =>
          cases fl₂ with
          | ret r =>
            obtain ⟨rfl, h', tk, rfl, zS2, kk⟩ := z₂
            repeat (any_goals (first | assumption | wp_step))
            exact h _ _ zS2 kk
          | _ => exact z₂.elim
    | _ => exact hr.elim
end
end Sw
namespace Sw
open PySem PySem.Spec PyProof.Rows L2
/-! ### set(list of texts), len of it -/
/-- a set of n texts stands at a -/
def TxO (P : Program) (w : World) (a : Addr) (n : Nat) : HO := .ext fun h => ∃ S, h.SetOf (strKind P w) a S n
section
variable {X : Cx}
theorem strs_vals : ∀ {xs : List Str} {us : List Value}, Vals (xs.map V.str) us → StrsAre us xs
  | [], _, .nil => .nil
  | x :: xs, _, .cons r t => by
    obtain ⟨k, rfl⟩ := r
    exact .cons x k (strs_vals t)
theorem call_setTx (hc : X.calm = true) : CallR X (.type "set") (fun vs H Q => ∃ (a : Addr) (xs : List Str), vs = [.ref a] ∧ SqL X.K H a (xs.map V.str) ∧ xs.length ≤ 1000 ∧ ∀ p, H p = none → Q (.ref p) (upd H p (TxO X.prog X.w p (once xs).length))) := by
  intro pins s σ H vs us Q I r h
  obtain ⟨a, xs, rfl, hx, hz, q⟩ := h
  cases r with
  | cons r1 rt =>
    cases rt
    cases r1
    obtain ⟨its, rv, hl, _⟩ := I.list hx
    have hlen := rv.length
    rw [List.length_map] at hlen
    refine set_of_texts (I.ok.hd hc) hl.isList (by simpa using strs_vals rv) (by rw [List.size_toArray, ← hlen]; unfold scanBound; omega) fun h' tk hS k => ?_
    obtain ⟨o, es, ep, t, ho, rest⟩ := id hS
    refine ⟨.ref s.heap.objs.size, _, I.laid (t' := tk) (o := TxO X.prog X.w s.heap.objs.size (once xs).length) (fun b ob e => k b ob (Heap.lt_size e) e) (Nat.le_refl _) ?_, rfl, q _ (I.hok.fresh (Nat.le_refl _))⟩
    exact ⟨⟨_, hS⟩, ⟨o, ho⟩, fun h1 h2 ⟨S, o1, e1, e2, t1, z, z2⟩ kk => ⟨S, o1, e1, e2, t1, kk _ z, z2⟩⟩
theorem call_lenTx : CallR X (.builtin "len") (fun vs H Q => ∃ (a : Addr) (n : Nat), vs = [.ref a] ∧ H a = some (TxO X.prog X.w a n) ∧ Q (.int n) H) := by
  intro pins s σ H vs us Q I r h
  obtain ⟨a, n, rfl, ha, q⟩ := h
  cases r with
  | cons r1 rt =>
    cases rt
    cases r1
    obtain ⟨⟨S, o, es, ep, t, ho, hex, hd, _, _, hb, hf, hn⟩, _⟩ := I.hok a _ ha
    exact call_len_set ho hex hd hf (by unfold scanBound at hb; omega) ⟨.int n, H, I.tok _, ⟨_, by rw [hn]⟩, q⟩
end
/-! ### (a, b)[::-1] -/
section
variable {prog : Program} {w : World} {A : Around} {E : Value → Shared → Prop} {s : Shared}
theorem applied_back {sl : Addr} {vk : Value} {Q : Int × Int × Nat → Shared → Prop} (hs : s.heap.IsSliceOf sl .none .none vk) (hk : IsPart vk (some (-1)))
    (h : Q (1, -1, 2) s) : wpAny (model prog w) A (Builtin.Slice.sliceApplied (.ref sl) (pure (2 : Int))) Q E s := by
  obtain ⟨os, hos, hcs, hds⟩ := id hs
  unfold Builtin.Slice.sliceApplied Builtin.Slice.sliceFields
  refine wpAny_bind (wpAny_bind (wpAny_field hos hds (x := .none) rfl (wpAny_bind (wpAny_field hos hds (x := .none) rfl (wpAny_bind (wpAny_field hos hds (x := vk) rfl (wpAny_pure ?_)))))))
  refine wpAny_bind (HT.slicePart_ hk ?_)
  show wpAny (model prog w) _ (if ((-1 : Int) == 0) = true then _ else _) _ _ s
  rw [if_neg (show ¬ ((-1 : Int) == 0) = true by decide)]
  refine wpAny_bind (HT.slicePart_ .none (wpAny_bind (HT.slicePart_ .none (wpAny_bind (wpAny_pure ?_)))))
  exact wpAny_pure h
theorem tuple_back {t sl : Addr} {u v : Value} {vk : Value} {Q : Value → Shared → Prop} (ht : IsTup s.heap t #[u, v]) (hs : s.heap.IsSliceOf sl .none .none vk) (hk : IsPart vk (some (-1)))
    (h : Q (.ref s.heap.objs.size) { s with heap := s.heap.push { cls := .type "tuple", data := .seq #[v, u] } }) : wpAny (model prog w) A (getItem (.ref t) (.ref sl)) Q E s := by
  obtain ⟨os, hos, hcs, hds⟩ := id hs
  have hTs : s.TypeIs (.ref sl) "slice" := ⟨os, hos, hcs⟩
  unfold getItem
  try with_reducible refine wpAny_holding ?_
  first | refine wpAny_bind (wpAny_pure ?_) | skip
  refine wpAny_bind (wpAny_sequenceKey ht.typeIs (by decide) ?_)
  refine wpAny_bind (wpAny_callSpecial?_slot (name := Str.ofString "__getitem__") ht.typeIs PyProof.Rows.slot_tuple_getitem
    (wpAny_call_entry PyProof.Rows.slot_tuple_getitem ht.typeIs entry_tuple_getitem ?_ (args_tuple_getitem _ _)))
  show wpAny (model prog w) _ (Builtin.Tuple.tupleItemsOf (.ref t) >>= _) _ _ s
  refine wpAny_bind (tupleItemsOf_ ht ?_)
  refine wpAny_bind (wpAny_typeOf hTs ?_)
  rw [if_pos (show (Value.type "slice" == Value.type "slice") = true from by decide)]
  refine wpAny_bind (applied_back hs hk ?_)
  show wpAny (model prog w) _ (if ((1 : Int) == 0 && (-1 : Int) == 1 && (2 : Nat) == 2) = true then _ else _) _ _ s
  rw [if_neg (show ¬ ((1 : Int) == 0 && (-1 : Int) == 1 && (2 : Nat) == 2) = true by decide)]
  have e : ((List.range 2).filterMap fun (k : Nat) => (#[u, v] : Array Value)[((1 : Int) + (k : Int) * (-1)).toNat]?).toArray = #[v, u] := rfl
  show wpAny (model prog w) _ (_ >>= _) _ _ s
  have hz : sizeOk (.seq #[v, u]) := by show 2 ≤ sizeLine; decide
  first
    | exact wpAny_bind (m := Builtin.Tuple.tupleExact _) (wpAny_newObj_type (wpAny_pure ⟨_, rfl, wpAny_pure h⟩) hz)
    | exact wpAny_bind (m := Builtin.Tuple.tupleExact _) (wpAny_newObj_type (wpAny_bind (wpAny_pure (wpAny_pure ⟨_, rfl, wpAny_pure h⟩))) hz)
    | exact wpAny_bind (wpAny_bind (m := Builtin.Tuple.tupleExact _) (wpAny_newObj_type (wpAny_pure (wpAny_pure ⟨_, rfl, wpAny_pure h⟩)) hz))
    | exact wpAny_bind (wpAny_bind (m := Builtin.Tuple.tupleExact _) (wpAny_newObj_type (wpAny_pure ⟨_, rfl, wpAny_pure h⟩) hz))
end
section
variable {X : Cx}
/-- (x, y)[::-1] -/
theorem pe_back {e : Expr} {te : TE} {k : Nat} {p1 p2 p3 pos : Pos} (he : PE X e te) : PE X (.Subscript e (.Slice none none (some (.UnaryOp .USub (.Constant (.int 1) k p1) p2)) p3) pos)
    (fun σ H Q => te σ H fun x H1 => ∃ a u v, x = .ref a ∧ SqT X.K H1 a [u, v] ∧ ∀ p, H1 p = none → Q (.ref p) (upd H1 p (.tup [v, u]))) := by
  refine ⟨fun pins s σ H Q I h => Subscript_ (thn (he.run pins s σ H _ I h) fun z s1 ⟨x, H1, J, r1, a, u, v, ex, hx, q⟩ => ?_)⟩
  subst ex
  cases r1
  have hst : PO X (some (.UnaryOp .USub (.Constant (.int 1) k p1) p2)) (tPart (tUn (rU fun i => .int (-i)) (tC (.int 1)))) := po_some (pe_un un_neg pe_int)
  refine wpAny_Slice (thn (po_none.run pins s1 σ H1 (fun o G => o = none ∧ G = H1) J ⟨rfl, rfl⟩) fun vl s2 ⟨l, G2, J2, pl, el, e2⟩ => ?_)
  subst el e2
  refine thn (po_none.run pins s2 σ G2 (fun o G => o = none ∧ G = G2) J2 ⟨rfl, rfl⟩) fun vu s3 ⟨m, G3, J3, pu, eu, e3⟩ => ?_
  subst eu e3
  refine thn (hst.run pins s3 σ G3 (fun o G => o = some (-1) ∧ G = G3) J3 ⟨1, rfl, -1, rfl, rfl, rfl⟩) fun vs s4 ⟨o, G4, J4, ps, eo, e4⟩ => ?_
  subst eo e4
  have J5 : Inv X pins σ G4 { s4 with heap := s4.heap.push { cls := .type "slice", data := .fields #[vl, vu, vs] } } := J4.kept (t' := s4.toks) fun b ob q => Heap.get?_push_of_some _ q
  obtain ⟨its, r, ht, hz⟩ := J5.tuple hx
  cases pl
  cases pu
  cases r with
  | cons ru r =>
    cases r with
    | cons rv' r =>
      cases r
      refine tail_any (ops := [.ref a, .ref s4.heap.objs.size]) ht.typeIs PyProof.Rows.slot_tuple_getitem.lookup ?_ (by with_unfolding_all rfl)
      refine tuple_back ht (Heap.IsSliceOf.new _ .none .none vs) ps ?_
      refine ⟨.ref _, _, J5.laid (t' := s4.toks) (o := .tup [v, u]) (fun b ob q => Heap.get?_push_of_some _ q) (Nat.le_refl _) ?_, rfl, q _ (J5.hok.fresh (Nat.le_refl _))⟩
      exact ⟨by show 2 ≤ sizeLine; decide, _, .cons rv' (.cons ru .nil), IsTup.new _ _⟩
end
/-! ### calls: all by keywords; a def with a star -/
section
variable {X : Cx} {CX : CXT} {k : Nat} {f : Addr} {fd : FuncData} {ps ks : List Str} {sp : Sp} {E : XK} {x : Str} {p pos : Pos} {e : Expr} {es : List Expr} {kws : List Keyword} {t tk : TA} {g : List Value → List Value → List Value} {gV : List V → List V → List V}
theorem pe_callR (F : FnR X.prog X.w X.K X.mg X.base CX k f sp) (hr : Room k X.A) (hg : Gl X x) (hm : X.mg x = some (.ref f)) (hk : PySem.W.keepIn X.K (.ref f) = true) (hx : Passes CX X E) (ha : PA X (e :: es) t) (hd : (x == ("__debug__" : Str)) = false := by decide)
    (he : starEach (e :: es) X.env = (false, eval e X.env) :: starEach es X.env := by rfl) (hp : (backTo pos (starEach es X.env)).any (·.1) = false := by rfl) : PE X (.Call (.Name x p) (e :: es) [] pos) (fun σ H Q => t σ H fun vs H1 => sp vs H1 Q E) := by
  refine ⟨fun pins s σ H Q I h => wpAny_Call_Name_kw (ld_glob I hg hm ?_ hd)⟩
  refine PySem.W.callWith_K (h₀ := X.base) I.ok.mod.kin hk (thn (ha.run pos pins s σ H _ I h) fun us s1 ⟨vs, H1, J, r, q⟩ => ⟨J.kIn, ?_⟩) he hp
  exact wpAny_call (run_fnR F hr hx J r q)
end
end Sw
namespace Sw
open PySem PySem.Spec PyProof.Rows L2
section
variable {X : Cx} {CX : CXT} {k : Nat} {f : Addr} {fd : FuncData} {ps ks : List Str} {sp : Sp} {E : XK} {x : Str} {p pos : Pos} {kws : List Keyword} {tk : TA} {g : List Value → List Value → List Value} {gV : List V → List V → List V}
/-- f(k = v, ..) -/
theorem pe_callKw (F : FnOk X.prog X.w X.K X.mg X.base CX k f fd ps sp) (hr : Room k X.A) (hg : Gl X x) (hm : X.mg x = some (.ref f)) (hk : PySem.W.keepIn X.K (.ref f) = true) (hb : KBn X.K fd ps 0 ks g gV) (hx : Passes CX X E) (hkw : PK X kws tk)
    (hall : (backToKw pos (keywordEach kws X.env)).all (·.1.isSome) = true := by rfl) (hks : (backToKw pos (keywordEach kws X.env)).filterMap (·.1) = ks := by rfl) (hd : (x == ("__debug__" : Str)) = false := by decide)
    (hp : ((backTo pos (starEach [] X.env)).any (·.1) || (backToKw pos (keywordEach kws X.env)).any (·.1.isNone)) = false := by rfl) : PE X (.Call (.Name x p) [] kws pos) (fun σ H Q => tk σ H fun zs H2 => zs.length = ks.length ∧ sp (gV [] zs) H2 Q E) := by
  refine ⟨fun pins s σ H Q I h => wpAny_Call_Name_kw (ld_glob I hg hm ?_ hd)⟩
  refine PySem.W.callWith_KW0 (h₀ := X.base) I.ok.mod.kin hk hall ?_ hp
  refine thn (hkw.run pos pins s σ H _ I h) fun ws s2 ⟨zs, H2, J, rz, l2, q2⟩ => ⟨J.kIn, ?_⟩
  rw [hks]
  exact run_fnN (us := []) (vs := []) F hr hb hx J .nil rz rfl l2 q2
end
/-- all parameters by name, in their order -/
theorem kb_all {K : PySem.W.Frag} {x q : Str} {pa : Arguments} {bo : List Stmt} {sc : Scope} {f : Addr} {fd : FuncData} {ps : List Str} (F : FunD K x q pa bo sc [] [] f fd)
    (h : ∀ (kV doc pm : Value) (an : Option Addr) (cv ct : Value) (ws : List Value), ws.length = ps.length → bindArgs (PySem.W.fnOf x q pa bo sc .none kV doc pm an cv ct) ⟨[], ps.zip ws⟩ = pure (ps.zip ws)) : KBn K fd ps 0 ps (fun us ws => us ++ ws) (fun vs zs => vs ++ zs) := by
  obtain ⟨oc, od, dV, kV, doc, pm, an, cv, ct, osl, rfl, lk, hcd, hD, hK⟩ := F.ex
  rcases hD with ⟨_, rfl⟩ | ⟨e, _⟩
  · refine ⟨fun s us ws _ l1 l2 => ?_, fun r1 r2 => r1.append r2⟩
    obtain rfl : us = [] := List.eq_nil_of_length_eq_zero l1
    exact .of_eq (h kV doc pm an cv ct ws l2)
  · exact absurd rfl e
/-! ### the bounds of a run's beginning -/
theorem units_of {k : Nat} {A : Around} (hr : Room k A) : A.units + 64 < cLine := hr.units
/-- a value of a kind that isinstance tells -/
inductive Kd (K : PySem.W.Frag) (H : Hp) : V → Prop
  | non : Kd K H .non
  | bl (b : Bool) : Kd K H (.bl b)
  | int (i : Int) : Kd K H (.int i)
  | str (z : Str) (h : z.length ≤ 1000000) : Kd K H (.str z)
  | lst {a : Addr} {xs : List V} (h : H a = some (.lst xs)) : Kd K H (.ref a)
  | tup {a : Addr} {xs : List V} (h : H a = some (.tup xs)) : Kd K H (.ref a)
  | dk {a : Addr} {xs : List (Key × V)} (h : H a = some (.dK xs)) : Kd K H (.ref a)
theorem Kd.same {K : PySem.W.Frag} {H H' : Hp} {x : V} (h : Kd K H x) (s : Same H H') : Kd K H' x := by
  cases h with
  | non => exact .non
  | bl b => exact .bl b
  | int i => exact .int i
  | str z h => exact .str z h
  | lst h => exact .lst (s _ _ h)
  | tup h => exact .tup (s _ _ h)
  | dk h => exact .dk (s _ _ h)
def isStrV : V → Bool
  | .str _ => true
  | _ => false
theorem isi_str {K : PySem.W.Frag} {H : Hp} {x : V} (h : Kd K H x) : ∃ t, TyX K H x t ∧ PySem.W.kitOne K t (.type "str") = some (isStrV x) := by
  cases h with
  | non => exact ⟨_, .base .non, kit_ty (a := "NoneType") (b := "str") (r := false) (by decide +kernel)⟩
  | bl b => exact ⟨_, .base (.bl b), kit_ty (a := "bool") (b := "str") (r := false) (by decide +kernel)⟩
  | int i => exact ⟨_, .base (.int i), kit_ty (a := "int") (b := "str") (r := false) (by decide +kernel)⟩
  | str z h => exact ⟨_, .base (.str z), kit_ty (a := "str") (b := "str") (r := true) (by decide +kernel)⟩
  | lst h => exact ⟨_, .base (.lst h), kit_ty (a := "list") (b := "str") (r := false) (by decide +kernel)⟩
  | tup h => exact ⟨_, .base (.tup h), kit_ty (a := "tuple") (b := "str") (r := false) (by decide +kernel)⟩
  | dk h => exact ⟨_, .base (.dK h), kit_ty (a := "dict") (b := "str") (r := false) (by decide +kernel)⟩
end Sw
namespace Sw
open PySem PySem.Spec PyProof.Rows L2
/-! ### small data -/
def asc (z : Str) : Bool := z.cps.toList.all fun c => decide (c < 128)
mutual
def okD : PyData → Bool
  | .none | .bool _ => true
  | .int i => decide (i.natAbs < 10 ^ 7)
  | .str x => asc x
  | .list xs | .tuple xs => okAll xs
  | .dict _ => false
def okAll : List PyData → Bool
  | [] => true
  | x :: xs => okD x && okAll xs
end
theorem asc_lt {z : Str} (h : asc z = true) : ∀ c ∈ z.cps.toList, c < 128 := fun c hc => of_decide_eq_true (List.all_eq_true.mp h c hc)
mutual
theorem ok_can : ∀ d : PyData, okD d = true → d.canLay0 = true
  | .none, _ => by simp only [PyData.canLay0]
  | .bool _, _ => by simp only [PyData.canLay0]
  | .int _, _ => by simp only [PyData.canLay0]
  | .str x, h => by
    have := asc_lt (by simpa only [okD] using h)
    simp only [PyData.canLay0, PyData.strOk]
    rw [← Array.all_toList]
    exact List.all_eq_true.mpr fun c hc => decide_eq_true (Nat.lt_of_lt_of_le (this c hc) (by decide))
  | .list xs, h => by simpa only [PyData.canLay0] using ok_canAll xs (by simpa only [okD] using h)
  | .tuple xs, h => by simpa only [PyData.canLay0] using ok_canAll xs (by simpa only [okD] using h)
  | .dict _, h => by simp [okD] at h
theorem ok_canAll : ∀ ds : List PyData, okAll ds = true → PyData.canLayAll0 ds = true
  | [], _ => by simp only [PyData.canLayAll0]
  | d :: ds, h => by
    obtain ⟨h1, h2⟩ := Bool.and_eq_true_iff.mp (show (okD d && okAll ds) = true by simpa only [okAll] using h)
    simp only [PyData.canLayAll0, ok_can d h1, ok_canAll ds h2, Bool.and_self]
end
mutual
theorem ok_show : ∀ d : PyData, okD d = true → d.showable = true
  | .none, _ => by simp only [PyData.showable]
  | .bool _, _ => by simp only [PyData.showable]
  | .int i, h => by
    have h1 : i.natAbs < 10 ^ 7 := of_decide_eq_true (by simpa only [okD] using h)
    simp only [PyData.showable]
    exact decide_eq_true (by
      by_cases z : i.natAbs = 0
      · rw [z]; decide
      · have : i.natAbs.log2 < 24 := (Nat.log2_lt z).mpr (by omega)
        omega)
  | .str x, _ => by simp only [PyData.showable]
  | .list xs, h => by simpa only [PyData.showable] using ok_showAll xs (by simpa only [okD] using h)
  | .tuple xs, h => by simpa only [PyData.showable] using ok_showAll xs (by simpa only [okD] using h)
  | .dict _, h => by simp [okD] at h
theorem ok_showAll : ∀ ds : List PyData, okAll ds = true → PyData.showableAll ds = true
  | [], _ => by simp only [PyData.showableAll]
  | d :: ds, h => by
    obtain ⟨h1, h2⟩ := Bool.and_eq_true_iff.mp (show (okD d && okAll ds) = true by simpa only [okAll] using h)
    simp only [PyData.showableAll, ok_show d h1, ok_showAll ds h2, Bool.and_self]
end
mutual
theorem ok_short : ∀ d : PyData, okD d = true → d.leavesShort 10 = true
  | .none, _ => by simp only [PyData.leavesShort]
  | .bool _, _ => by simp only [PyData.leavesShort]
  | .int i, h => by
    have h1 : i.natAbs < 10 ^ 7 := of_decide_eq_true (by simpa only [okD] using h)
    simp only [PyData.leavesShort]
    have := int_text_length_le10 (k := 7) (by decide) h1
    refine decide_eq_true ?_
    simp only [PyData.shown]
    rw [PySem.ofString_length]
    omega
  | .str x, h => by
    have h1 := asc_lt (by simpa only [okD] using h)
    simp only [PyData.leavesShort]
    exact List.all_eq_true.mpr fun c hc => decide_eq_true (Nat.lt_of_lt_of_le (h1 c hc) (by decide))
  | .list xs, h => by simpa only [PyData.leavesShort] using ok_shortAll xs (by simpa only [okD] using h)
  | .tuple xs, h => by simpa only [PyData.leavesShort] using ok_shortAll xs (by simpa only [okD] using h)
  | .dict _, h => by simp [okD] at h
theorem ok_shortAll : ∀ ds : List PyData, okAll ds = true → PyData.leavesShortAll 10 ds = true
  | [], _ => by simp only [PyData.leavesShortAll]
  | d :: ds, h => by
    obtain ⟨h1, h2⟩ := Bool.and_eq_true_iff.mp (show (okD d && okAll ds) = true by simpa only [okAll] using h)
    simp only [PyData.leavesShortAll, ok_short d h1, ok_shortAll ds h2, Bool.and_self]
end
/-- data that repr and == take -/
structure Good (d : PyData) : Prop where
  ok : okD d = true
  dp : d.depth ≤ 60
  bk : d.bulk ≤ 2 ^ 20
theorem Good.shaped {d : PyData} (g : Good d) : SeqAt.shaped d = true := by
  unfold SeqAt.shaped
  rw [ok_can d g.ok, Bool.true_and]
  exact decide_eq_true (Nat.le_trans g.dp (by decide))
section
variable {X : Cx}
theorem call_rp (hG : X.A.guards = some []) (hu : X.A.units + 64 < cLine) : CallR X (.builtin "repr") (fun xs H Q => ∃ x d, xs = [x] ∧ Dp X.K H x d ∧ Good d ∧ Q (.str d.shown) H) := by
  intro pins s σ H xs us Q I r ⟨x, d, e, h, g, q⟩
  exact call_reprD hG hu pins s σ H xs us Q I r ⟨x, d, e, h, ok_show d g.ok, g.dp, PyData.shown_fits_bulk (B := 10) (by decide) (by decide) (ok_short d g.ok) g.bk, q⟩
theorem op_eqG (hu : X.A.units + 64 < cLine) : OpR X (compareOp .Eq) (fun x y H Q => ∃ d e, Dp X.K H x d ∧ Dp X.K H y e ∧ Good d ∧ Good e ∧ Q (.bl (PyData.eqv d e)) H) := by
  intro pins s σ H x y v u Q I rx ry ⟨d, e, h1, h2, g1, g2, q⟩
  exact op_eqD hu pins s σ H x y v u Q I rx ry ⟨d, e, h1, h2, g1.shaped, g2.shaped, q⟩
theorem op_neG (hu : X.A.units + 64 < cLine) : OpR X (compareOp .NotEq) (fun x y H Q => ∃ d e, Dp X.K H x d ∧ Dp X.K H y e ∧ Good d ∧ Good e ∧ Q (.bl (!PyData.eqv d e)) H) := by
  intro pins s σ H x y v u Q I rx ry ⟨d, e, h1, h2, g1, g2, q⟩
  exact op_neD hu pins s σ H x y v u Q I rx ry ⟨d, e, h1, h2, g1.shaped, g2.shaped, q⟩
end
/-! ### flat lists as data -/
theorem dp_strs {K : PySem.W.Frag} {H : Hp} : ∀ xs : List Str, DpAll K H (xs.map V.str) (xs.map PyData.str)
  | [] => .nil
  | x :: xs => .cons (.str x) (dp_strs xs)
theorem dp_ints {K : PySem.W.Frag} {H : Hp} : ∀ xs : List Int, DpAll K H (xs.map V.int) (xs.map PyData.int)
  | [] => .nil
  | x :: xs => .cons (.int x) (dp_ints xs)
theorem ok_strs : ∀ {xs : List Str}, (∀ x ∈ xs, asc x = true) → okAll (xs.map PyData.str) = true
  | [], _ => by simp only [List.map_nil, okAll]
  | x :: xs, h => by simp only [List.map_cons, okAll, okD, h x (List.mem_cons_self ..), ok_strs fun y hy => h y (List.mem_cons_of_mem _ hy), Bool.and_self]
theorem depth_strs : ∀ xs : List Str, PyData.depthAll (xs.map PyData.str) = 0
  | [] => by simp only [List.map_nil, PyData.depthAll]
  | x :: xs => by simp only [List.map_cons, PyData.depthAll, PyData.depth, depth_strs xs, Nat.max_self]
theorem bulk_strs : ∀ {xs : List Str} {n : Nat}, (∀ x ∈ xs, x.length ≤ n) → PyData.bulkAll (xs.map PyData.str) ≤ (n + 1) * xs.length
  | [], _, _ => by simp only [List.map_nil, PyData.bulkAll, Nat.zero_le]
  | x :: xs, n, h => by
    have h1 : x.cps.size ≤ n := h x (List.mem_cons_self ..)
    have h2 := bulk_strs (xs := xs) (n := n) fun y hy => h y (List.mem_cons_of_mem _ hy)
    simp only [List.map_cons, PyData.bulkAll, PyData.bulk, List.length_cons, Nat.mul_succ]
    omega
theorem eqv_nil (ds : List PyData) : PyData.eqv (.list ds) (.list []) = ds.isEmpty := by
  cases ds <;> simp [PyData.eqv, PyData.eqvAll]
mutual
theorem eqv_self : ∀ d : PyData, okD d = true → PyData.eqv d d = true
  | .none, _ => by simp only [PyData.eqv]
  | .bool b, _ => by simp [PyData.eqv]
  | .int _, _ => by simp [PyData.eqv]
  | .str x, h => by simp [PyData.eqv]
  | .list xs, h => by simpa only [PyData.eqv] using eqv_selfAll xs (by simpa only [okD] using h)
  | .tuple xs, h => by simpa only [PyData.eqv] using eqv_selfAll xs (by simpa only [okD] using h)
  | .dict _, h => by simp [okD] at h
theorem eqv_selfAll : ∀ ds : List PyData, okAll ds = true → PyData.eqvAll ds ds = true
  | [], _ => by simp only [PyData.eqvAll]
  | d :: ds, h => by
    obtain ⟨h1, h2⟩ := Bool.and_eq_true_iff.mp (show (okD d && okAll ds) = true by simpa only [okAll] using h)
    simp only [PyData.eqvAll, eqv_self d h1, eqv_selfAll ds h2, Bool.and_self]
end
theorem good_strs {xs : List Str} {n : Nat} (h1 : ∀ x ∈ xs, asc x = true) (h2 : ∀ x ∈ xs, x.length ≤ n) (h3 : (n + 1) * xs.length ≤ 2 ^ 20) : Good (.list (xs.map PyData.str)) where
  ok := by simpa only [okD] using ok_strs h1
  dp := by simp only [PyData.depth, depth_strs]; omega
  bk := by simp only [PyData.bulk]; exact Nat.le_trans (bulk_strs h2) h3
end Sw
namespace Sw
open PySem PySem.Spec PyProof.Rows L2
/-! ### beginnings and rests of texts -/
def mkS (l : List Nat) : Str := ⟨l.toArray⟩
def tkS (z : Str) (n : Nat) : Str := mkS (z.cps.toList.take n)
def drS (z : Str) (n : Nat) : Str := mkS (z.cps.toList.drop n)
theorem mkS_codes (l : List Nat) : (mkS l).cps.toList = l := rfl
theorem mkS_self (z : Str) : mkS z.cps.toList = z := by cases z; rfl
theorem mkS_len (l : List Nat) : (mkS l).length = l.length := rfl
theorem codes_len (z : Str) : z.cps.toList.length = z.length := Array.length_toList
theorem mkS_inj {a b : Str} (h : a.cps.toList = b.cps.toList) : a = b := by rw [← mkS_self a, ← mkS_self b, h]
theorem cut_head {z : Str} {n : Nat} (h : n ≤ z.length) : cutS z none (some (n : Int)) = tkS z n := by
  unfold cutS tkS mkS
  rw [HT.sIx_none, HT.sIx_nat, Nat.min_eq_left h, List.drop_zero, Nat.sub_zero]
theorem cut_tail {z : Str} {n : Nat} (h : n ≤ z.length) : cutS z (some (n : Int)) none = drS z n := by
  unfold cutS drS mkS
  rw [HT.sIx_none, HT.sIx_nat, Nat.min_eq_left h, List.take_of_length_le (by rw [List.length_drop, codes_len]; exact Nat.le_refl _)]
theorem item_at {z : Str} {n : Nat} (h : n < z.length) : atI z.cps.toList (n : Int) = some (z.cps.toList[n]'(by rw [codes_len]; exact h)) := atI_nat (List.getElem?_eq_getElem (by rw [codes_len]; exact h))
theorem asc_mk {l : List Nat} (h : ∀ c ∈ l, c < 128) : asc (mkS l) = true := List.all_eq_true.mpr fun c hc => decide_eq_true (h c hc)
theorem asc_tk {z : Str} (h : asc z = true) (n : Nat) : asc (tkS z n) = true := asc_mk fun c hc => asc_lt h c (List.mem_of_mem_take hc)
theorem asc_dr {z : Str} (h : asc z = true) (n : Nat) : asc (drS z n) = true := asc_mk fun c hc => asc_lt h c (List.mem_of_mem_drop hc)
theorem tk_len (z : Str) (n : Nat) : (tkS z n).length ≤ z.length := by
  show (z.cps.toList.take n).length ≤ _
  rw [List.length_take, codes_len]; omega
theorem dr_len (z : Str) (n : Nat) : (drS z n).length ≤ z.length := by
  show (z.cps.toList.drop n).length ≤ _
  rw [List.length_drop, codes_len]; omega
theorem line_big : (1000000 : Nat) ≤ sizeLine := by decide
end Sw
namespace Sw
open PySem PySem.Spec PyProof.Rows L2
/-! ### text * int, with its signs -/
theorem foldl_in (a : Array Nat) : ∀ (k : Nat) (b : Array Nat) (c : Nat), c ∈ ((List.replicate k a).foldl (· ++ ·) b).toList → c ∈ b.toList ∨ c ∈ a.toList
  | 0, b, c, h => .inl (by simpa using h)
  | k + 1, b, c, h => by
    rw [List.replicate_succ, List.foldl_cons] at h
    rcases foldl_in a k (b ++ a) c h with h | h
    · rw [Array.toList_append] at h
      exact List.mem_append.mp h
    · exact .inr h
section
variable {X : Cx}
theorem op_mulT : OpR X (binaryOp .Mult) (fun x y H Q => ∃ (z : Str) (k : Int), x = .str z ∧ y = .int k ∧ 2 ≤ k ∧ k ≤ 1000 ∧ 1 ≤ z.length ∧ z.length ≤ 1000 ∧ ∀ u : Str, u.length = k.toNat * z.length → (∀ c ∈ u.cps.toList, c ∈ z.cps.toList) → Q (.str u) H) := by
  intro pins s σ H x y v u Q I rx ry h
  obtain ⟨z, k, rfl, rfl, h1, h2, h3, h4, q⟩ := h
  obtain ⟨t, rfl⟩ := rx
  obtain ⟨t', rfl⟩ := ry
  have hk : z.length * k.toNat ≤ 1000000 := by
    have : k.toNat ≤ 1000 := by omega
    calc z.length * k.toNat ≤ 1000 * 1000 := Nat.mul_le_mul h4 this
      _ = 1000000 := rfl
  have big : (1000000 : Nat) ≤ sizeLine := line_big
  have e0 : (k == 1 || z.length == 0) = false := by
    rw [Bool.or_eq_false_iff]
    exact ⟨beq_eq_false_iff_ne.mpr (by omega), beq_eq_false_iff_ne.mpr (by omega)⟩
  refine P.mul_str ?_ (fun _ _ => ?_) (fun _ _ => ?_) ?_
  · have a1 : ¬ k < -(2 ^ 63 : Int) := by omega
    have a2 : ¬ k ≥ 2 ^ 63 := by omega
    rw [decide_eq_false a1, decide_eq_false a2]; rfl
  · have b1 : (1000 : Int) ≤ (2 ^ 63 - 1) / k := by
      rw [Int.le_ediv_iff_mul_le (by omega)]
      have : 1000 * k ≤ 1000000 := by omega
      omega
    omega
  · unfold Builtin.Str.tooLong
    simp only [decide_eq_false_iff_not]
    omega
  · rw [if_neg (show ¬ k < 1 by omega), e0]
    simp only [Bool.false_eq_true, if_false]
    have hlen : (⟨(List.replicate k.toNat z.cps).foldl (· ++ ·) #[]⟩ : Str).length = k.toNat * z.length := by
      show ((List.replicate k.toNat z.cps).foldl (· ++ ·) #[]).size = _
      rw [foldl_cat]
      show 0 + k.toNat * z.cps.size = k.toNat * z.cps.size
      omega
    refine ⟨?_, .str _, H, I.tok _, ⟨_, rfl⟩, q _ hlen fun c hc => ?_⟩
    · rw [hlen, Nat.mul_comm]; omega
    · rcases foldl_in z.cps k.toNat #[] c hc with h | h
      · cases h
      · exact h
end
/-! ### what stays -/
theorem seqT_same {K : PySem.W.Frag} {H H' : Hp} {a : Addr} {xs : List V} (e : Same H H') (h : SqT K H a xs) : SqT K H' a xs := by
  rcases h with (h | ⟨o, h⟩) | h
  · exact .inl (.inl (e _ _ h))
  · exact .inl (.inr ⟨o, e _ _ h⟩)
  · exact .inr h
mutual
theorem dp_same {K : PySem.W.Frag} {H H' : Hp} (e : Same H H') : ∀ (d : PyData) (v : V), Dp K H v d → Dp K H' v d
  | .none, _, h => by cases h; exact .non
  | .bool _, _, h => by cases h; exact .bl _
  | .int _, _, h => by cases h; exact .int _
  | .str _, _, h => by cases h; exact .str _
  | .list ds, _, h => by
    cases h with
    | lst h1 h2 => exact .lst (e.seq h1) (dps_same e ds _ h2)
  | .tuple ds, _, h => by
    cases h with
    | tup h1 h2 => exact .tup (seqT_same e h1) (dps_same e ds _ h2)
  | .dict _, _, h => by cases h
theorem dps_same {K : PySem.W.Frag} {H H' : Hp} (e : Same H H') : ∀ (ds : List PyData) (vs : List V), DpAll K H vs ds → DpAll K H' vs ds
  | [], _, h => by cases h; exact .nil
  | d :: ds, _, h => by
    cases h with
    | cons h1 h2 => exact .cons (dp_same e d _ h1) (dps_same e ds _ h2)
end
/-- the repr of a value is t -/
inductive Rv (K : PySem.W.Frag) (H : Hp) : V → Str → Prop
  | data {x : V} {d : PyData} (h : Dp K H x d) (s : d.showable = true) (dp : d.depth ≤ 60) (z : d.shown.length ≤ sizeLine) : Rv K H x d.shown
  | dk {a : Addr} (h : H a = some (.dK [])) : Rv K H (.ref a) (PyData.shown (.dict []))
theorem Rv.same {K : PySem.W.Frag} {H H' : Hp} {x : V} {t : Str} (e : Same H H') (h : Rv K H x t) : Rv K H' x t := by
  cases h with
  | data h s dp z => exact .data (dp_same e _ _ h) s dp z
  | dk h => exact .dk (e _ _ h)
theorem Rv.good {K : PySem.W.Frag} {H : Hp} {x : V} {d : PyData} (h : Dp K H x d) (g : Good d) : Rv K H x d.shown :=
  .data h (ok_show d g.ok) g.dp (PyData.shown_fits_bulk (B := 10) (by decide) (by decide) (ok_short d g.ok) g.bk)
theorem call_rv {X : Cx} (hG : X.A.guards = some []) (hu : X.A.units + 64 < cLine) : CallR X (.builtin "repr") (fun xs H Q => ∃ x t, xs = [x] ∧ Rv X.K H x t ∧ Q (.str t) H) := by
  intro pins s σ H xs us Q I r ⟨x, t, e, h, q⟩
  cases h with
  | data h hs dp z => exact call_reprD hG hu pins s σ H xs us Q I r ⟨x, _, e, h, hs, dp, z, q⟩
  | dk h => exact call_repr0 hG hu pins s σ H xs us Q I r ⟨_, e, h, q⟩
/-- a value that is asked: its kind, its repr -/
structure Itm (K : PySem.W.Frag) (H : Hp) (x : V) : Prop where
  kd : Kd K H x
  sm : ∀ z, x = .str z → asc z = true ∧ z.length ≤ 1000
  rv : ∃ t, Rv K H x t
theorem Itm.same {K : PySem.W.Frag} {H H' : Hp} {x : V} (h : Itm K H x) (e : Same H H') : Itm K H' x := ⟨h.kd.same e, h.sm, let ⟨t, r⟩ := h.rv; ⟨t, r.same e⟩⟩
theorem good_str {z : Str} (h : asc z = true) (hl : z.length ≤ 1000) : Good (.str z) where
  ok := by simpa only [okD] using h
  dp := by simp only [PyData.depth]; omega
  bk := by
    simp only [PyData.bulk]
    have e : z.cps.size ≤ 1000 := hl
    omega
theorem good_strsT {xs : List Str} {n : Nat} (h1 : ∀ x ∈ xs, asc x = true) (h2 : ∀ x ∈ xs, x.length ≤ n) (h3 : (n + 1) * xs.length ≤ 2 ^ 20) : Good (.tuple (xs.map PyData.str)) where
  ok := by simpa only [okD] using ok_strs h1
  dp := by simp only [PyData.depth, depth_strs]; omega
  bk := by simp only [PyData.bulk]; exact Nat.le_trans (bulk_strs h2) h3
section
variable {K : PySem.W.Frag} {H : Hp}
theorem itm_str {z : Str} (h : asc z = true) (hl : z.length ≤ 1000) : Itm K H (.str z) := ⟨.str z (by omega), fun y e => by cases e; exact ⟨h, hl⟩, _, .good (.str z) (good_str h hl)⟩
theorem itm_non : Itm K H .non := ⟨.non, (fun y e => nomatch e), _, .good .non ⟨by decide, by decide, by decide⟩⟩
theorem itm_bl (b : Bool) : Itm K H (.bl b) := ⟨.bl b, (fun y e => nomatch e), _, .good (.bl b) ⟨by simp only [okD], by simp only [PyData.depth]; omega, by cases b <;> decide⟩⟩
theorem itm_int {i : Int} {k : Nat} (hk : 0 < k) (hk2 : k ≤ 1000) (h : i.natAbs < 10 ^ k) (hs : (PyData.int i).showable = true) : Itm K H (.int i) :=
  ⟨.int i, (fun y e => nomatch e), _, .data (.int i) hs (by simp only [PyData.depth]; omega) (by
    have := int_text_length_le10 hk h
    have := line_big
    simp only [PyData.shown]
    rw [PySem.ofString_length]
    omega)⟩
theorem itm_strs {a : Addr} {xs : List Str} {n : Nat} (ha : H a = some (.lst (xs.map V.str))) (h1 : ∀ x ∈ xs, asc x = true) (h2 : ∀ x ∈ xs, x.length ≤ n) (h3 : (n + 1) * xs.length ≤ 2 ^ 20) : Itm K H (.ref a) :=
  ⟨.lst ha, (fun y e => nomatch e), _, .good (.lst (SqL.of ha) (dp_strs xs)) (good_strs h1 h2 h3)⟩
theorem itm_strsT {a : Addr} {xs : List Str} {n : Nat} (ha : H a = some (.tup (xs.map V.str))) (h1 : ∀ x ∈ xs, asc x = true) (h2 : ∀ x ∈ xs, x.length ≤ n) (h3 : (n + 1) * xs.length ≤ 2 ^ 20) : Itm K H (.ref a) :=
  ⟨.tup ha, (fun y e => nomatch e), _, .good (.tup (SqT.of ha) (dp_strs xs)) (good_strsT h1 h2 h3)⟩
theorem itm_dk {a : Addr} (ha : H a = some (.dK [])) : Itm K H (.ref a) := ⟨.dk ha, (fun y e => nomatch e), _, .dk ha⟩
end
end Sw
namespace Sw
open PySem PySem.Spec PyProof.Rows L2
section
variable {X : Cx}
/-- x < y: texts, ints, and tuples of such (one kind on both sides) -/
theorem op_ltD (α : Type) [DecidableEq α] [PySem.W.DatumOrd α] (hu : X.A.units + 64 < cLine) (hd : PySem.W.Datum.depth α ≤ 60) : OpR X (compareOp .Lt) (fun x y H Q => ∃ a b : α, Dp X.K H x (PySem.W.Datum.toD a) ∧ Dp X.K H y (PySem.W.Datum.toD b) ∧ Q (.bl (PySem.W.DatumOrd.lt a b)) H) := by
  intro pins s σ H x y v u Q I rx ry ⟨a, b, h1, h2, q⟩
  obtain ⟨as, r1⟩ := Dp.reads I _ x v h1 rx
  obtain ⟨bs, r2⟩ := Dp.reads I _ y u h2 ry
  exact PySem.W.lt_datum ⟨as, r1⟩ ⟨bs, r2⟩ (by omega) ⟨.bl _, H, I, rfl, q⟩
end
end Sw
namespace Dl
open PySem PySem.Spec PyProof.Rows L2 Sw
/-! ### data, without the heap -/
inductive D where
  | non | bl (b : Bool) | int (i : Int) | str (z : Str)
  | lst (ds : List D) | tup (ds : List D)
  | dk (ks : List Key) (ds : List D) | dt (ks : List (List Key)) (ds : List D)
  | ins (C : Addr) (ns : List Str) (ds : List D)
  | at (v : V)
mutual
inductive Dv (K : PySem.W.Frag) (G : Hp) : V → D → Prop
  | non : Dv K G .non .non
  | bl (b : Bool) : Dv K G (.bl b) (.bl b)
  | int (i : Int) : Dv K G (.int i) (.int i)
  | str (z : Str) : Dv K G (.str z) (.str z)
  | lst {a : Addr} {xs : List V} {ds : List D} : G a = some (.lst xs) → DvAll K G xs ds → Dv K G (.ref a) (.lst ds)
  | tup {a : Addr} {xs : List V} {ds : List D} : G a = some (.tup xs) → DvAll K G xs ds → Dv K G (.ref a) (.tup ds)
  | dk {a : Addr} {kvs : List (Key × V)} {ds : List D} : G a = some (.dK kvs) → DvAll K G (kvs.map (·.2)) ds → Dv K G (.ref a) (.dk (kvs.map (·.1)) ds)
  | dt {a : Addr} {kvs : List (List Key × V)} {ds : List D} : G a = some (.dT kvs) → DvAll K G (kvs.map (·.2)) ds → Dv K G (.ref a) (.dt (kvs.map (·.1)) ds)
  | ins {a C dx : Addr} {fs : List (Str × V)} {ds : List D} : G a = some (.ins C dx fs) → DvAll K G (fs.map (·.2)) ds → Dv K G (.ref a) (.ins C (fs.map (·.1)) ds)
  | at (v : V) : Dv K G v (.at v)
inductive DvAll (K : PySem.W.Frag) (G : Hp) : List V → List D → Prop
  | nil : DvAll K G [] []
  | cons {v : V} {vs : List V} {d : D} {ds : List D} : Dv K G v d → DvAll K G vs ds → DvAll K G (v :: vs) (d :: ds)
end
mutual
theorem Dv.up {K : PySem.W.Frag} {G G' : Hp} (e : Same G G') : ∀ (d : D) (v : V), Dv K G v d → Dv K G' v d
  | .non, _, h => by cases h; exact .non
  | .bl _, _, h => by cases h; exact .bl _
  | .int _, _, h => by cases h; exact .int _
  | .str _, _, h => by cases h; exact .str _
  | .lst ds, _, h => by cases h with | lst h1 h2 => exact .lst (e _ _ h1) (DvAll.up e ds _ h2)
  | .tup ds, _, h => by cases h with | tup h1 h2 => exact .tup (e _ _ h1) (DvAll.up e ds _ h2)
  | .dk _ ds, _, h => by cases h with | dk h1 h2 => exact .dk (e _ _ h1) (DvAll.up e ds _ h2)
  | .dt _ ds, _, h => by cases h with | dt h1 h2 => exact .dt (e _ _ h1) (DvAll.up e ds _ h2)
  | .ins _ _ ds, _, h => by cases h with | ins h1 h2 => exact .ins (e _ _ h1) (DvAll.up e ds _ h2)
  | .at _, _, h => by cases h; exact .at _
theorem DvAll.up {K : PySem.W.Frag} {G G' : Hp} (e : Same G G') : ∀ (ds : List D) (vs : List V), DvAll K G vs ds → DvAll K G' vs ds
  | [], _, h => by cases h; exact .nil
  | d :: ds, _, h => by cases h with | cons h1 h2 => exact .cons (Dv.up e d _ h1) (DvAll.up e ds _ h2)
end
theorem dva_len {K : PySem.W.Frag} {G : Hp} : ∀ {vs : List V} {ds : List D}, DvAll K G vs ds → vs.length = ds.length
  | _, _, .nil => rfl
  | _, _, .cons _ t => by rw [List.length_cons, List.length_cons, dva_len t]
theorem dva_get {K : PySem.W.Frag} {G : Hp} : ∀ {vs : List V} {ds : List D} {i : Nat} {v : V}, DvAll K G vs ds → vs[i]? = some v → ∃ d, ds[i]? = some d ∧ Dv K G v d
  | _, _, _, _, .nil, e => by simp at e
  | _, _, 0, _, .cons h _, e => by
    have : _ = _ := Option.some.inj (by simpa using e)
    subst this
    exact ⟨_, rfl, h⟩
  | _, _, i + 1, _, .cons _ t, e => by
    obtain ⟨d, h1, h2⟩ := dva_get (i := i) t (by simpa using e)
    exact ⟨d, by simpa using h1, h2⟩
theorem dva_get' {K : PySem.W.Frag} {G : Hp} : ∀ {vs : List V} {ds : List D} {i : Nat} {d : D}, DvAll K G vs ds → ds[i]? = some d → ∃ v, vs[i]? = some v ∧ Dv K G v d
  | _, _, _, _, .nil, e => by simp at e
  | _, _, 0, _, .cons h _, e => by
    have : _ = _ := Option.some.inj (by simpa using e)
    subst this
    exact ⟨_, rfl, h⟩
  | _, _, i + 1, _, .cons _ t, e => by
    obtain ⟨d, h1, h2⟩ := dva_get' (i := i) t (by simpa using e)
    exact ⟨d, by simpa using h1, h2⟩
theorem dva_app {K : PySem.W.Frag} {G : Hp} : ∀ {vs ws : List V} {ds es : List D}, DvAll K G vs ds → DvAll K G ws es → DvAll K G (vs ++ ws) (ds ++ es)
  | _, _, _, _, .nil, h => h
  | _, _, _, _, .cons a t, h => .cons a (dva_app t h)
theorem dva_take {K : PySem.W.Frag} {G : Hp} : ∀ {vs : List V} {ds : List D} (n : Nat), DvAll K G vs ds → DvAll K G (vs.take n) (ds.take n)
  | _, _, 0, _ => .nil
  | _, _, _ + 1, .nil => .nil
  | _, _, n + 1, .cons a t => .cons a (dva_take n t)
theorem dva_drop {K : PySem.W.Frag} {G : Hp} : ∀ {vs : List V} {ds : List D} (n : Nat), DvAll K G vs ds → DvAll K G (vs.drop n) (ds.drop n)
  | _, _, 0, h => h
  | _, _, _ + 1, .nil => .nil
  | _, _, n + 1, .cons _ t => dva_drop n t
theorem dva_rev {K : PySem.W.Frag} {G : Hp} : ∀ {vs : List V} {ds : List D}, DvAll K G vs ds → DvAll K G vs.reverse ds.reverse
  | _, _, .nil => .nil
  | _, _, .cons a t => by rw [List.reverse_cons, List.reverse_cons]; exact dva_app (dva_rev t) (.cons a .nil)
theorem dva_split {K : PySem.W.Frag} {G : Hp} : ∀ {vs : List V} {ds es : List D}, DvAll K G vs (ds ++ es) → ∃ xs ys, vs = xs ++ ys ∧ DvAll K G xs ds ∧ DvAll K G ys es
  | vs, [], es, h => ⟨[], vs, rfl, .nil, h⟩
  | _, d :: ds, es, h => by
    cases h with
    | cons a t =>
      obtain ⟨xs, ys, rfl, h1, h2⟩ := dva_split (ds := ds) t
      exact ⟨_ :: xs, ys, rfl, .cons a h1, h2⟩
theorem dva_set {K : PySem.W.Frag} {G : Hp} {v : V} {d : D} (h : Dv K G v d) : ∀ {vs : List V} {ds : List D} (i : Nat), DvAll K G vs ds → DvAll K G (vs.set i v) (ds.set i d)
  | _, _, _, .nil => .nil
  | _, _, 0, .cons _ t => .cons h t
  | _, _, i + 1, .cons a t => .cons a (dva_set h i t)
/-! ### slots -/
inductive Sl where
  | v (d : D)
  | o (d : D)
/-- the state: the slots, the number of draws -/
structure Ds where
  ρ : List (Option Sl)
  dr : Int
def getS : List (Option Sl) → Nat → Option Sl
  | [], _ => none
  | x :: _, 0 => x
  | _ :: l, n + 1 => getS l n
def setS : List (Option Sl) → Nat → Option Sl → List (Option Sl)
  | [], _, _ => []
  | _ :: l, 0, x => x :: l
  | y :: l, n + 1, x => y :: setS l n x
theorem setS_len : ∀ (l : List (Option Sl)) (i : Nat) (x : Option Sl), (setS l i x).length = l.length
  | [], _, _ => rfl
  | _ :: _, 0, _ => rfl
  | _ :: l, n + 1, x => by rw [setS, List.length_cons, List.length_cons, setS_len l n x]
theorem getS_setS : ∀ {l : List (Option Sl)} {i : Nat} {x : Option Sl} {j : Nat} {s : Sl}, getS (setS l i x) j = some s → (j = i ∧ x = some s ∧ i < l.length) ∨ (j ≠ i ∧ getS l j = some s)
  | [], _, _, _, _, h => by cases h
  | _ :: _, 0, _, 0, _, h => .inl ⟨rfl, h, by simp⟩
  | _ :: _, 0, _, _ + 1, _, h => .inr ⟨by simp, h⟩
  | _ :: _, _ + 1, _, 0, _, h => .inr ⟨by simp, h⟩
  | _ :: l, i + 1, x, j + 1, s, h => by
    rcases getS_setS (l := l) (i := i) (j := j) (show getS (setS l i x) j = some s from h) with ⟨e, h1, h2⟩ | ⟨e, h1⟩
    · exact .inl ⟨by rw [e], h1, by simpa using h2⟩
    · exact .inr ⟨fun q => e (by omega), h1⟩
theorem getS_lt : ∀ {l : List (Option Sl)} {j : Nat} {s : Sl}, getS l j = some s → j < l.length
  | [], _, _, h => by cases h
  | _ :: _, 0, _, _ => by simp
  | _ :: l, j + 1, s, h => by have := getS_lt (l := l) (j := j) h; simpa using this
/-! ### the world of a def's run: what was frozen at its entry, what stood there, the deck -/
structure Dek where
  dk : List Addr
  deck : Hp → Int → Prop
  st : ∀ H H' n, deck H n → (∀ a ∈ dk, H' a = H a) → deck H' n
  tr : ∀ H n, deck H n → ∀ a ∈ dk, H a ≠ none
structure Wd (k : Dek) where
  B : Hp
  F : Hp
  bd : ∀ a ∈ k.dk, B a = none
  fd : ∀ a ∈ k.dk, F a = none
abbrev Wd.dk {k : Dek} (_ : Wd k) := k.dk
abbrev Wd.deck {k : Dek} (_ : Wd k) := k.deck
theorem Wd.st {k : Dek} (W : Wd k) : ∀ H H' n, W.deck H n → (∀ a ∈ W.dk, H' a = H a) → W.deck H' n := k.st
theorem Wd.tr {k : Dek} (W : Wd k) : ∀ H n, W.deck H n → ∀ a ∈ W.dk, H a ≠ none := k.tr
def Wd.of (k : Dek) (G H : Hp) (h : ∀ a ∈ k.dk, G a = none) : Wd k := ⟨G, fun a => if a ∈ k.dk then none else H a, h, fun a m => if_pos m⟩
/-- an object that a slot owns -/
def Own (K : PySem.W.Frag) (G H : Hp) (a : Addr) : D → Prop
  | .lst ds => ∃ xs, H a = some (.lst xs) ∧ DvAll K G xs ds
  | .dk ks ds => ∃ kvs, H a = some (.dK kvs) ∧ kvs.map (·.1) = ks ∧ DvAll K G (kvs.map (·.2)) ds
  | .dt ks ds => ∃ kvs, H a = some (.dT kvs) ∧ kvs.map (·.1) = ks ∧ DvAll K G (kvs.map (·.2)) ds
  | .ins C ns ds => ∃ dx fs, H a = some (.ins C dx fs) ∧ fs.map (·.1) = ns ∧ DvAll K G (fs.map (·.2)) ds
  | _ => False
theorem Own.up {K : PySem.W.Frag} {G G' H H' : Hp} {a : Addr} {d : D} (e : Same G G') (h : H' a = H a) (o : Own K G H a d) : Own K G' H' a d := by
  cases d with
  | lst ds => obtain ⟨xs, h1, h2⟩ := o; exact ⟨xs, h.trans h1, DvAll.up e _ _ h2⟩
  | dk ks ds => obtain ⟨kvs, h1, h2, h3⟩ := o; exact ⟨kvs, h.trans h1, h2, DvAll.up e _ _ h3⟩
  | dt ks ds => obtain ⟨kvs, h1, h2, h3⟩ := o; exact ⟨kvs, h.trans h1, h2, DvAll.up e _ _ h3⟩
  | ins C ns ds => obtain ⟨dx, fs, h1, h2, h3⟩ := o; exact ⟨dx, fs, h.trans h1, h2, DvAll.up e _ _ h3⟩
  | _ => exact o.elim
theorem Own.ex {K : PySem.W.Frag} {G H : Hp} {a : Addr} {d : D} (o : Own K G H a d) : ∃ u, H a = some u := by
  cases d with
  | lst ds => obtain ⟨xs, h1, h2⟩ := o; exact ⟨_, h1⟩
  | dk ks ds => obtain ⟨kvs, h1, h2, h3⟩ := o; exact ⟨_, h1⟩
  | dt ks ds => obtain ⟨kvs, h1, h2, h3⟩ := o; exact ⟨_, h1⟩
  | ins C ns ds => obtain ⟨dx, fs, h1, h2, h3⟩ := o; exact ⟨_, h1⟩
  | _ => exact o.elim
/-- an owned object, frozen -/
theorem Own.frz {K : PySem.W.Frag} {G H : Hp} {a : Addr} {d : D} (o : Own K G H a d) (n : G a = none) : ∃ u, H a = some u ∧ Dv K (upd G a u) (.ref a) d := by
  have s : ∀ u, Same G (upd G a u) := fun u b o hb => by rw [upd_ne (ne_of_none hb n)]; exact hb
  cases d with
  | lst ds => obtain ⟨xs, h1, h2⟩ := o; exact ⟨_, h1, .lst upd_same (DvAll.up (s _) _ _ h2)⟩
  | dk ks ds => obtain ⟨kvs, h1, rfl, h3⟩ := o; exact ⟨_, h1, .dk upd_same (DvAll.up (s _) _ _ h3)⟩
  | dt ks ds => obtain ⟨kvs, h1, rfl, h3⟩ := o; exact ⟨_, h1, .dt upd_same (DvAll.up (s _) _ _ h3)⟩
  | ins C ns ds => obtain ⟨dx, fs, h1, rfl, h3⟩ := o; exact ⟨_, h1, .ins upd_same (DvAll.up (s _) _ _ h3)⟩
  | _ => exact o.elim
/-- a is owned: not frozen, younger than the entry, not the deck's -/
structure Frsh {k : Dek} (W : Wd k) (G : Hp) (a : Addr) : Prop where
  g : G a = none
  f : W.F a = none
  d : a ∉ W.dk
def SlOk {k : Dek} (W : Wd k) (K : PySem.W.Frag) (G H : Hp) (v : V) : Sl → Prop
  | .v d => Dv K G v d
  | .o d => ∃ a, v = .ref a ∧ Frsh W G a ∧ Own K G H a d
/-- the heap H, its frozen part G and the slots σ are what S tells -/
structure Rep {k : Dek} (W : Wd k) (K : PySem.W.Frag) (G H : Hp) (σ : L2.St) (S : Ds) : Prop where
  gh : Same G H
  bg : Same W.B G
  fr : Same W.F H
  nw : ∀ a o, G a = some o → W.B a = some o ∨ (W.F a = none ∧ a ∉ W.dk)
  len : σ.length = S.ρ.length
  sl : ∀ i s, getS S.ρ i = some s → ∃ v, σ[i]? = some (some v) ∧ SlOk W K G H v s
  ap : ∀ i j d e a, i ≠ j → getS S.ρ i = some (.o d) → getS S.ρ j = some (.o e) → σ[i]? = some (some (.ref a)) → σ[j]? ≠ some (some (.ref a))
  dk : W.deck H S.dr
section
variable {k : Dek} {W : Wd k} {K : PySem.W.Frag} {G H G' H' : Hp} {σ : L2.St} {S : Ds}
theorem Rep.gdk (R : Rep W K G H σ S) : ∀ a ∈ W.dk, G a = none := fun a ha => by
  cases e : G a with
  | none => rfl
  | some o =>
    rcases R.nw a o e with h | ⟨_, h⟩
    · rw [W.bd a ha] at h; cases h
    · exact absurd ha h
/-- the heap has grown: all that was is as it was, but the deck -/
theorem Rep.grow (R : Rep W K G H σ S) {n : Int} (g : Same G G') (h : Same G' H') (new : ∀ a o, G' a = some o → G a = some o ∨ (H a = none ∧ a ∉ W.dk)) (old : ∀ a o, H a = some o → a ∉ W.dk → H' a = some o) (dk : W.deck H' n) : Rep W K G' H' σ ⟨S.ρ, n⟩ where
  gh := h
  bg := R.bg.trans g
  fr := fun a o e => old a o (R.fr a o e) fun m => by rw [W.fd a m] at e; cases e
  nw := fun a o e => by
    rcases new a o e with e | ⟨e, m⟩
    · exact R.nw a o e
    · refine .inr ⟨?_, m⟩
      cases q : W.F a with
      | none => rfl
      | some u => rw [R.fr a u q] at e; cases e
  len := R.len
  sl := fun i s e => by
    obtain ⟨v, e1, ok⟩ := R.sl i s e
    refine ⟨v, e1, ?_⟩
    cases s with
    | v d => exact Dv.up g _ _ ok
    | o d =>
      obtain ⟨a, rfl, f, o⟩ := ok
      obtain ⟨u, hu⟩ := o.ex
      refine ⟨a, rfl, ⟨?_, f.f, f.d⟩, o.up g ?_⟩
      · cases q : G' a with
        | none => rfl
        | some u' =>
          rcases new a u' q with q | ⟨q, _⟩
          · rw [f.g] at q; cases q
          · rw [hu] at q; cases q
      · rw [hu]; exact old a u hu f.d
  ap := R.ap
  dk := dk
/-- a new object that is frozen at once -/
theorem Rep.new (R : Rep W K G H σ S) {p : Addr} {o : HO} (hp : H p = none) : Rep W K (upd G p o) (upd H p o) σ S := by
  have gp : G p = none := R.gh.free hp
  have pd : p ∉ W.dk := fun m => W.tr H S.dr R.dk p m hp
  have old : ∀ a u, H a = some u → a ∉ W.dk → upd H p o a = some u := fun a u e _ => by rw [upd_ne (ne_of_none e hp)]; exact e
  refine R.grow (n := S.dr) (fun b u e => by rw [upd_ne (ne_of_none e gp)]; exact e) (fun b u e => ?_) (fun b u e => ?_) old (W.st _ _ _ R.dk fun a m => upd_ne fun q => pd (q ▸ m))
  · by_cases q : b = p
    · subst q; rw [upd_same] at e ⊢; exact e
    · rw [upd_ne q] at e ⊢; exact R.gh b u e
  · by_cases q : b = p
    · subst q; exact .inr ⟨hp, pd⟩
    · rw [upd_ne q] at e; exact .inl e
/-- a new object that is not frozen -/
theorem Rep.newO (R : Rep W K G H σ S) {p : Addr} {o : HO} (hp : H p = none) : Rep W K G (upd H p o) σ S ∧ Frsh W G p := by
  have pd : p ∉ W.dk := fun m => W.tr H S.dr R.dk p m hp
  refine ⟨R.grow (n := S.dr) (Same.refl _) (fun b u e => ?_) (fun b u e => .inl e) (fun a u e _ => by rw [upd_ne (ne_of_none e hp)]; exact e) (W.st _ _ _ R.dk fun a m => upd_ne fun q => pd (q ▸ m)), R.gh.free hp, R.fr.free hp, pd⟩
  have e2 := R.gh b u e
  rw [upd_ne (ne_of_none e2 hp)]; exact e2
theorem same_upd {G : Hp} {p : Addr} {o : HO} (hp : G p = none) : Same G (upd G p o) := fun b u e => by rw [upd_ne (ne_of_none e hp)]; exact e
/-- an owned object is frozen -/
theorem Rep.frz (R : Rep W K G H σ S) {i : Nat} {d : D} {a : Addr} (e : getS S.ρ i = some (.o d)) (ei : σ[i]? = some (some (.ref a))) (f : Frsh W G a) (o : Own K G H a d) :
    ∃ u, H a = some u ∧ Dv K (upd G a u) (.ref a) d ∧ Rep W K (upd G a u) H σ ⟨setS S.ρ i (some (.v d)), S.dr⟩ := by
  obtain ⟨u, hu, dv⟩ := o.frz f.g
  have g := same_upd (o := u) f.g
  refine ⟨u, hu, dv, ⟨fun b v q => ?_, R.bg.trans g, R.fr, fun b v q => ?_, by rw [setS_len]; exact R.len, fun j s q => ?_, fun j k d1 e1 b hjk q1 q2 q3 => ?_, R.dk⟩⟩
  · by_cases z : b = a
    · subst z; rw [upd_same] at q; cases q; exact hu
    · rw [upd_ne z] at q; exact R.gh b v q
  · by_cases z : b = a
    · subst z; exact .inr ⟨f.f, f.d⟩
    · rw [upd_ne z] at q; exact R.nw b v q
  · rcases getS_setS q with ⟨rfl, q, _⟩ | ⟨hj, q⟩
    · cases q; exact ⟨_, ei, dv⟩
    · obtain ⟨v, e1, ok⟩ := R.sl j s q
      refine ⟨v, e1, ?_⟩
      cases s with
      | v d' => exact Dv.up g _ _ ok
      | o d' =>
        obtain ⟨b, rfl, f', o'⟩ := ok
        have ne : b ≠ a := fun z => R.ap i j d d' a (Ne.symm hj) e q ei (z ▸ e1)
        exact ⟨b, rfl, ⟨by rw [upd_ne ne]; exact f'.g, f'.f, f'.d⟩, o'.up g rfl⟩
  · rcases getS_setS q1 with ⟨_, q1, _⟩ | ⟨_, q1⟩
    · cases q1
    · rcases getS_setS q2 with ⟨_, q2, _⟩ | ⟨_, q2⟩
      · cases q2
      · exact R.ap j k d1 e1 b hjk q1 q2 q3
theorem set_get {l : List (Option V)} {i j : Nat} {x : Option V} (h : i < l.length) : (l.set i x)[j]? = if j = i then some x else l[j]? := by
  by_cases e : j = i
  · subst e; rw [if_pos rfl, List.getElem?_set_self h]
  · rw [if_neg e, List.getElem?_set_ne (Ne.symm e)]
/-- a slot is stored: a frozen value -/
theorem Rep.setV (R : Rep W K G H σ S) {i : Nat} {v : V} {d : D} (dv : Dv K G v d) : Rep W K G H (σ.set i (some v)) ⟨setS S.ρ i (some (.v d)), S.dr⟩ := by
  refine ⟨R.gh, R.bg, R.fr, R.nw, by rw [setS_len, List.length_set]; exact R.len, fun j s q => ?_, fun j k d1 e1 b hjk q1 q2 q3 q4 => ?_, R.dk⟩
  · rcases getS_setS q with ⟨rfl, q, hl⟩ | ⟨hj, q⟩
    · cases q
      exact ⟨v, by rw [List.getElem?_set_self (by rw [R.len]; exact hl)], dv⟩
    · obtain ⟨v', e1, ok⟩ := R.sl j s q
      exact ⟨v', by rw [List.getElem?_set_ne (Ne.symm hj)]; exact e1, ok⟩
  · rcases getS_setS q1 with ⟨_, q1, _⟩ | ⟨hj, q1⟩
    · cases q1
    · rcases getS_setS q2 with ⟨_, q2, _⟩ | ⟨hk, q2⟩
      · cases q2
      · rw [List.getElem?_set_ne (Ne.symm hj)] at q3
        rw [List.getElem?_set_ne (Ne.symm hk)] at q4
        exact R.ap j k d1 e1 b hjk q1 q2 q3 q4
/-- no slot owns a -/
def NoOwn (σ : L2.St) (S : Ds) (a : Addr) : Prop := ∀ i d, getS S.ρ i = some (.o d) → σ[i]? ≠ some (some (.ref a))
/-- a slot is stored: an owned object -/
theorem Rep.setO (R : Rep W K G H σ S) {i : Nat} {a : Addr} {d : D} (f : Frsh W G a) (o : Own K G H a d) (no : NoOwn σ S a) : Rep W K G H (σ.set i (some (.ref a))) ⟨setS S.ρ i (some (.o d)), S.dr⟩ := by
  refine ⟨R.gh, R.bg, R.fr, R.nw, by rw [setS_len, List.length_set]; exact R.len, fun j s q => ?_, fun j k d1 e1 b hjk q1 q2 q3 q4 => ?_, R.dk⟩
  · rcases getS_setS q with ⟨rfl, q, hl⟩ | ⟨hj, q⟩
    · cases q
      exact ⟨_, by rw [List.getElem?_set_self (by rw [R.len]; exact hl)], a, rfl, f, o⟩
    · obtain ⟨v', e1, ok⟩ := R.sl j s q
      exact ⟨v', by rw [List.getElem?_set_ne (Ne.symm hj)]; exact e1, ok⟩
  · rcases getS_setS q1 with ⟨rfl, _, hl⟩ | ⟨hj, q1'⟩
    · rcases getS_setS q2 with ⟨rfl, _, _⟩ | ⟨hk, q2'⟩
      · exact hjk rfl
      · rw [List.getElem?_set_self (by rw [R.len]; exact hl)] at q3
        rw [List.getElem?_set_ne (Ne.symm hk)] at q4
        cases q3
        exact no k e1 q2' q4
    · rcases getS_setS q2 with ⟨rfl, _, hl⟩ | ⟨hk, q2'⟩
      · rw [List.getElem?_set_self (by rw [R.len]; exact hl)] at q4
        rw [List.getElem?_set_ne (Ne.symm hj)] at q3
        cases q4
        exact no j d1 q1' q3
      · rw [List.getElem?_set_ne (Ne.symm hj)] at q3
        rw [List.getElem?_set_ne (Ne.symm hk)] at q4
        exact R.ap j k d1 e1 b hjk q1' q2' q3 q4
/-- an owned object is changed -/
theorem Rep.wrO (R : Rep W K G H σ S) {i : Nat} {a : Addr} {d d' : D} {u : HO} (e : getS S.ρ i = some (.o d)) (ei : σ[i]? = some (some (.ref a))) (f : Frsh W G a) (o : Own K G (upd H a u) a d') :
    Rep W K G (upd H a u) σ ⟨setS S.ρ i (some (.o d')), S.dr⟩ := by
  refine ⟨fun b v q => ?_, R.bg, fun b v q => ?_, R.nw, by rw [setS_len]; exact R.len, fun j s q => ?_, fun j k d1 e1 b hjk q1 q2 q3 q4 => ?_, W.st _ _ _ R.dk fun b m => upd_ne fun q => f.d (q ▸ m)⟩
  · rw [upd_ne (ne_of_none q f.g)]; exact R.gh b v q
  · rw [upd_ne (ne_of_none q f.f)]; exact R.fr b v q
  · rcases getS_setS q with ⟨rfl, q, hl⟩ | ⟨hj, q⟩
    · cases q
      exact ⟨_, ei, a, rfl, f, o⟩
    · obtain ⟨v', e1, ok⟩ := R.sl j s q
      refine ⟨v', e1, ?_⟩
      cases s with
      | v _ => exact ok
      | o d2 =>
        obtain ⟨b, rfl, f', o'⟩ := ok
        have ne : b ≠ a := fun z => R.ap i j d d2 a (Ne.symm hj) e q ei (z ▸ e1)
        exact ⟨b, rfl, f', o'.up (Same.refl _) (upd_ne ne)⟩
  · have old : ∀ {j : Nat} {d1 : D}, getS (setS S.ρ i (some (.o d'))) j = some (.o d1) → ∃ d2, getS S.ρ j = some (.o d2) := fun {j d1} q => by
      rcases getS_setS q with ⟨rfl, q, hl⟩ | ⟨hj, q⟩
      · exact ⟨_, e⟩
      · exact ⟨_, q⟩
    obtain ⟨d2, q1⟩ := old q1
    obtain ⟨d3, q2⟩ := old q2
    exact R.ap j k d2 d3 b hjk q1 q2 q3 q4
end
end Dl
namespace Dl
open PySem PySem.Spec PyProof.Rows L2 Sw
/-! ### readings over data -/
/-- A if x is True, B if it is False -/
def onB (x : D) (A B : Prop) : Prop := match x with
  | .bl true => A
  | .bl false => B
  | _ => False
def onT (b : Bool) (A B : Prop) : Prop := match b with
  | true => A
  | false => B
theorem onB_of {b : Bool} {A B : Prop} (h1 : b = true → A) (h2 : b = false → B) : onB (.bl b) A B := by
  cases b
  · exact h2 rfl
  · exact h1 rfl
theorem onT_of {b : Bool} {A B : Prop} (h1 : b = true → A) (h2 : b = false → B) : onT b A B := by
  cases b
  · exact h2 rfl
  · exact h1 rfl
/-- the test's answer is known -/
theorem onB_t {b : Bool} {A B : Prop} (e : b = true) (h : A) : onB (.bl b) A B := by subst e; exact h
theorem onB_f {b : Bool} {A B : Prop} (e : b = false) (h : B) : onB (.bl b) A B := by subst e; exact h
theorem onT_t {b : Bool} {A B : Prop} (e : b = true) (h : A) : onT b A B := by subst e; exact h
theorem onT_f {b : Bool} {A B : Prop} (e : b = false) (h : B) : onT b A B := by subst e; exact h
/-- x and y, as a bool -/
theorem onB_and {a b : Bool} {Q : D → Int → Prop} {n : Int} (h : Q (.bl (a && b)) n) : onB (.bl a) (Q (.bl b) n) (Q (.bl false) n) := by cases a <;> exact h
theorem onB_or {a b : Bool} {Q : D → Int → Prop} {n : Int} (h : Q (.bl (a || b)) n) : onB (.bl a) (Q (.bl true) n) (Q (.bl b) n) := by cases a <;> exact h
theorem onB_andS {a b : Bool} {P : D → Ds → Prop} {S : Ds} (h : P (.bl (a && b)) S) : onB (.bl a) (P (.bl b) S) (P (.bl false) S) := by cases a <;> exact h
theorem onB_orS {a b : Bool} {P : D → Ds → Prop} {S : Ds} (h : P (.bl (a || b)) S) : onB (.bl a) (P (.bl true) S) (P (.bl b) S) := by cases a <;> exact h
abbrev DT := Ds → (D → Ds → Prop) → Prop
abbrev DTT := Ds → (Bool → Ds → Prop) → Prop
abbrev DTA := Ds → (List D → Ds → Prop) → Prop
def lift {kk : Dek} (W : Wd kk) (K : PySem.W.Frag) (t : DT) : TE := fun σ H Q => ∃ G S P, Rep W K G H σ S ∧ t S P ∧ ∀ d S', P d S' → ∀ v H' G', Same G G' → Rep W K G' H' σ S' → Dv K G' v d → Q v H'
def liftT {kk : Dek} (W : Wd kk) (K : PySem.W.Frag) (t : DTT) : TT := fun σ H Q => ∃ G S P, Rep W K G H σ S ∧ t S P ∧ ∀ b S', P b S' → ∀ H' G', Same G G' → Rep W K G' H' σ S' → Q b H'
def liftA {kk : Dek} (W : Wd kk) (K : PySem.W.Frag) (t : DTA) : TA := fun σ H Q => ∃ G S P, Rep W K G H σ S ∧ t S P ∧ ∀ ds S', P ds S' → ∀ vs H' G', Same G G' → Rep W K G' H' σ S' → DvAll K G' vs ds → Q vs H'
def DE {kk : Dek} (X : Cx) (W : Wd kk) (e : Expr) (t : DT) : Prop := PE X e (lift W X.K t)
def DTe {kk : Dek} (X : Cx) (W : Wd kk) (e : Expr) (t : DTT) : Prop := PT X e (liftT W X.K t)
def DTw {kk : Dek} (X : Cx) (W : Wd kk) (e : Expr) (t : DTT) : Prop := PW X e (liftT W X.K t)
def DA {kk : Dek} (X : Cx) (W : Wd kk) (es : List Expr) (t : DTA) : Prop := PA X es (liftA W X.K t)
theorem pe_imp {X : Cx} {e : Expr} {t t' : TE} (h : PE X e t) (i : ∀ σ H Q, t' σ H Q → t σ H Q) : PE X e t' := ⟨fun pins s σ H Q I q => h.run pins s σ H Q I (i _ _ _ q)⟩
theorem pt_imp {X : Cx} {e : Expr} {t t' : TT} (h : PT X e t) (i : ∀ σ H Q, t' σ H Q → t σ H Q) : PT X e t' := ⟨fun pins s σ H Q I q => h.run pins s σ H Q I (i _ _ _ q)⟩
theorem pw_imp {X : Cx} {e : Expr} {t t' : TT} (h : PW X e t) (i : ∀ σ H Q, t' σ H Q → t σ H Q) : PW X e t' := ⟨fun wh pins s σ H Q I q => h.run wh pins s σ H Q I (i _ _ _ q)⟩
theorem pa_imp {X : Cx} {e : List Expr} {t t' : TA} (h : PA X e t) (i : ∀ σ H Q, t' σ H Q → t σ H Q) : PA X e t' := ⟨fun po pins s σ H Q I q => h.run po pins s σ H Q I (i _ _ _ q)⟩
section
variable {X : Cx} {kk : Dek} {W : Wd kk} {a b c e : Expr} {es : List Expr} {ta tb tc : DT} {pos : Pos}
/-! ### names, constants -/
def dVar (i : Nat) : DT := fun S P => match getS S.ρ i with
  | some (.v d) => P d S
  | some (.o d) => P d ⟨setS S.ρ i (some (.v d)), S.dr⟩
  | none => False
def dC (d : D) : DT := fun S P => P d S
theorem de_var {i : Nat} {x : Str} (hN : X.N[i]? = some x) (hv : Vis X.env.scope x) (hd : (x == ("__debug__" : Str)) = false := by decide) (hcd : (x == ("__classdict__" : Str)) = false := by decide) : DE X W (.Name x pos) (dVar i) := by
  refine pe_imp (pe_var hN hv hd hcd) fun σ H Q ⟨G, S, P, R, h, q⟩ => ?_
  unfold dVar at h
  cases e : getS S.ρ i with
  | none => rw [e] at h; exact h.elim
  | some s =>
    rw [e] at h
    obtain ⟨v, ev, ok⟩ := R.sl i s e
    cases s with
    | v d => exact ⟨v, ev, q d S h v H G (Same.refl _) R ok⟩
    | o d =>
      obtain ⟨a, rfl, f, o⟩ := ok
      obtain ⟨u, hu, dv, R'⟩ := R.frz e ev f o
      exact ⟨_, ev, q d _ h _ H _ (same_upd f.g) R' dv⟩
theorem de_c {v : V} {d : D} (h : PE X e (tC v)) (hd : ∀ G, Dv X.K G v d) : DE X W e (dC d) :=
  pe_imp h fun σ H Q ⟨G, S, P, R, p, q⟩ => q d S p v H G (Same.refl _) R (hd G)
theorem de_int {i : Int} {j} : DE X W (.Constant (.int i) j pos) (dC (.int i)) := de_c pe_int fun _ => .int i
theorem de_bl {b j} : DE X W (.Constant (.bool b) j pos) (dC (.bl b)) := de_c pe_bl fun _ => .bl b
theorem de_non {j} : DE X W (.Constant .none j pos) (dC .non) := de_c pe_non fun _ => .non
theorem de_str {x j} : DE X W (.Constant (.str x) j pos) (dC (.str x)) := de_c pe_str fun _ => .str x
/-- a built-in class, a class or a def of the module, as a value -/
theorem de_at {v : V} (h : PE X e (tC v)) : DE X W e (dC (.at v)) := de_c h fun _ => .at v
/-! ### operators by values -/
def DOp {kk : Dek} (X : Cx) (W : Wd kk) (f : Value → Value → Sem Value) (g : D → D → (D → Prop) → Prop) : Prop := ∃ r : R2, OpR X f r ∧ ∀ (G H : Hp) (σ : L2.St) (S : Ds) (v w : V) (x y : D) (P : D → Prop) (Q : VK), Rep W X.K G H σ S → Dv X.K G v x → Dv X.K G w y → g x y P →
  (∀ d, P d → ∀ u H' G', Same G G' → Rep W X.K G' H' σ S → Dv X.K G' u d → Q u H') → r v w H Q
def dBin (g : D → D → (D → Prop) → Prop) (ta tb : DT) : DT := fun S P => ta S fun x S1 => tb S1 fun y S2 => g x y fun d => P d S2
theorem DOp.or {f : Value → Value → Sem Value} {g g' : D → D → (D → Prop) → Prop} (h : DOp X W f g) (h' : DOp X W f g') : DOp X W f (fun x y P => g x y P ∨ g' x y P) := by
  obtain ⟨r, o, k⟩ := h
  obtain ⟨r', o', k'⟩ := h'
  refine ⟨_, o.or o', fun G H σ S v w x y P Q R hv hw hg hq => ?_⟩
  rcases hg with hg | hg
  · exact .inl (k G H σ S v w x y P Q R hv hw hg hq)
  · exact .inr (k' G H σ S v w x y P Q R hv hw hg hq)
theorem DOp.imp {f : Value → Value → Sem Value} {g g' : D → D → (D → Prop) → Prop} (h : DOp X W f g) (i : ∀ x y P, g' x y P → g x y P) : DOp X W f g' := by
  obtain ⟨r, o, k⟩ := h
  exact ⟨r, o, fun G H σ S v w x y P Q R hv hw hg hq => k G H σ S v w x y P Q R hv hw (i _ _ _ hg) hq⟩
theorem lift_op {r : R2} {g : D → D → (D → Prop) → Prop} (k : ∀ (G H : Hp) (σ : L2.St) (S : Ds) (v w : V) (x y : D) (P : D → Prop) (Q : VK), Rep W X.K G H σ S → Dv X.K G v x → Dv X.K G w y → g x y P →
    (∀ d, P d → ∀ u H' G', Same G G' → Rep W X.K G' H' σ S → Dv X.K G' u d → Q u H') → r v w H Q) (σ : L2.St) (H : Hp) (Q : VK) : lift W X.K (dBin g ta tb) σ H Q → tOp r (lift W X.K ta) (lift W X.K tb) σ H Q := by
  rintro ⟨G, S, P, R, h, q⟩
  refine ⟨G, S, _, R, h, fun x S1 h1 v H1 G1 s1 R1 d1 => ?_⟩
  refine ⟨G1, S1, _, R1, h1, fun y S2 h2 w H2 G2 s2 R2 d2 => ?_⟩
  exact k G2 H2 σ S2 v w x y _ Q R2 (Dv.up s2 _ _ d1) d2 h2 fun d p u H' G' s' R' dv => q d S2 p u H' G' ((s1.trans s2).trans s') R' dv
theorem de_op {op : Operator} {g : D → D → (D → Prop) → Prop} (ho : DOp X W (binaryOp op) g) (ha : DE X W a ta) (hb : DE X W b tb) : DE X W (.BinOp a op b pos) (dBin g ta tb) := by
  obtain ⟨r, o, k⟩ := ho
  exact pe_imp (pe_op o ha hb) (lift_op k)
theorem de_cmp {op : CmpOp} {g : D → D → (D → Prop) → Prop} (ho : DOp X W (compareOp op) g) (ha : DE X W a ta) (hb : DE X W b tb) (hm : behindInMarks op b = false := by first | exact nobehind _ (by decide) (by decide) | rfl) : DE X W (.Compare a [op] [b] pos) (dBin g ta tb) := by
  obtain ⟨r, o, k⟩ := ho
  exact pe_imp (pe_cmpR o ha hb hm) (lift_op k)
/-! ### bools -/
def dBool (t : DT) : DTT := fun S P => t S fun x S1 => match x with
  | .bl b => P b S1
  | _ => False
theorem lift_bool {t : DT} (σ : L2.St) (H : Hp) (Q : Bool → Hp → Prop) : liftT W X.K (dBool t) σ H Q → lift W X.K t σ H (fun x H1 => ∃ c, x = .bl c ∧ Q c H1) := by
  rintro ⟨G, S, P, R, h, q⟩
  refine ⟨G, S, _, R, h, fun x S1 h1 v H1 G1 s1 R1 d1 => ?_⟩
  cases x with
  | bl b => cases d1; exact ⟨b, rfl, q b S1 h1 H1 G1 s1 R1⟩
  | _ => exact False.elim h1
theorem dt_cmp {op : CmpOp} {g : D → D → (D → Prop) → Prop} (ho : DOp X W (compareOp op) g) (ha : DE X W a ta) (hb : DE X W b tb) (hm : behindInMarks op b = false := by first | exact nobehind _ (by decide) (by decide) | rfl) : DTe X W (.Compare a [op] [b] pos) (dBool (dBin g ta tb)) := by
  obtain ⟨r, o, k⟩ := ho
  exact pt_imp (pt_cmpR o ha hb hm) fun σ H Q h => lift_op k σ H _ (lift_bool σ H Q h)
theorem dt_val (h : DE X W e ta) (he : ∀ whole, isTrue e X.env whole = (do let v ← whole; standAt e.pos; holding [v] (truthy v)) := by intro _; rfl) : DTe X W e (dBool ta) :=
  pt_imp (pt_val h he) fun σ H Q q => lift_bool σ H Q q
def dNotT (t : DTT) : DTT := fun S P => t S fun b S1 => P (!b) S1
theorem dt_not {t : DTT} (h : DTe X W a t) : DTe X W (.UnaryOp .Not a pos) (dNotT t) := by
  refine pt_imp (pt_not h) fun σ H Q ⟨G, S, P, R, p, q⟩ => ?_
  exact ⟨G, S, _, R, p, fun b S1 p1 H1 G1 s1 R1 => q _ S1 p1 H1 G1 s1 R1⟩
def dAndT (t u : DTT) : DTT := fun S P => t S fun b S1 => onT b (u S1 P) (P false S1)
def dOrT (t u : DTT) : DTT := fun S P => t S fun b S1 => onT b (P true S1) (u S1 P)
theorem dw_and1 {t : DTT} (h : DTe X W a t) : DTw X W (.BoolOp .And [a] pos) t := pw_and1 h
theorem dw_or1 {t : DTT} (h : DTe X W a t) : DTw X W (.BoolOp .Or [a] pos) t := pw_or1 h
theorem dw_and {t u : DTT} {rest : List Expr} (h : DTe X W a t) (k : DTw X W (.BoolOp .And (b :: rest) pos) u) : DTw X W (.BoolOp .And (a :: b :: rest) pos) (dAndT t u) := by
  refine pw_imp (pw_and h k) fun σ H Q ⟨G, S, P, R, p, q⟩ => ?_
  refine ⟨G, S, _, R, p, fun c S1 p1 H1 G1 s1 R1 => ?_⟩
  cases c with
  | true => rw [if_pos rfl]; exact ⟨G1, S1, P, R1, p1, fun c2 S2 p2 H2 G2 s2 R2 => q c2 S2 p2 H2 G2 (s1.trans s2) R2⟩
  | false => rw [if_neg Bool.false_ne_true]; exact q false S1 p1 H1 G1 s1 R1
theorem dw_or {t u : DTT} {rest : List Expr} (h : DTe X W a t) (k : DTw X W (.BoolOp .Or (b :: rest) pos) u) : DTw X W (.BoolOp .Or (a :: b :: rest) pos) (dOrT t u) := by
  refine pw_imp (pw_or h k) fun σ H Q ⟨G, S, P, R, p, q⟩ => ?_
  refine ⟨G, S, _, R, p, fun c S1 p1 H1 G1 s1 R1 => ?_⟩
  cases c with
  | false => rw [if_neg Bool.false_ne_true]; exact ⟨G1, S1, P, R1, p1, fun c2 S2 p2 H2 G2 s2 R2 => q c2 S2 p2 H2 G2 (s1.trans s2) R2⟩
  | true => rw [if_pos rfl]; exact q true S1 p1 H1 G1 s1 R1
theorem dt_w {t : DTT} (h : DTw X W a t) : DTe X W a t := PW.pt h
/-- a and b, a or b, as values (the left ones bools) -/
def dAnd (t u : DT) : DT := fun S P => t S fun x S1 => onB x (u S1 P) (P (.bl false) S1)
def dOr (t u : DT) : DT := fun S P => t S fun x S1 => onB x (P (.bl true) S1) (u S1 P)
def dNot (t : DT) : DT := fun S P => t S fun x S1 => match x with
  | .bl b => P (.bl !b) S1
  | _ => False
theorem de_one {op} (h : DE X W a ta) : DE X W (.BoolOp op [a] pos) ta := pe_one h
theorem de_and {rest : List Expr} (ha : DE X W a ta) (hb : DE X W (.BoolOp .And (b :: rest) pos) tb) : DE X W (.BoolOp .And (a :: b :: rest) pos) (dAnd ta tb) := by
  refine pe_imp (pe_and ha hb) fun σ H Q ⟨G, S, P, R, p, q⟩ => ?_
  refine ⟨G, S, _, R, p, fun x S1 p1 v H1 G1 s1 R1 d1 => ?_⟩
  cases x with
  | bl c =>
    cases d1
    refine ⟨c, rfl, ?_⟩
    cases c with
    | true => rw [if_pos rfl]; exact ⟨G1, S1, P, R1, p1, fun c2 S2 p2 v2 H2 G2 s2 R2 => q c2 S2 p2 v2 H2 G2 (s1.trans s2) R2⟩
    | false => rw [if_neg Bool.false_ne_true]; exact q _ S1 p1 _ H1 G1 s1 R1 (.bl false)
  | _ => exact False.elim p1
theorem de_or {rest : List Expr} (ha : DE X W a ta) (hb : DE X W (.BoolOp .Or (b :: rest) pos) tb) : DE X W (.BoolOp .Or (a :: b :: rest) pos) (dOr ta tb) := by
  refine pe_imp (pe_or ha hb) fun σ H Q ⟨G, S, P, R, p, q⟩ => ?_
  refine ⟨G, S, _, R, p, fun x S1 p1 v H1 G1 s1 R1 d1 => ?_⟩
  cases x with
  | bl c =>
    cases d1
    refine ⟨c, rfl, ?_⟩
    cases c with
    | false => rw [if_neg Bool.false_ne_true]; exact ⟨G1, S1, P, R1, p1, fun c2 S2 p2 v2 H2 G2 s2 R2 => q c2 S2 p2 v2 H2 G2 (s1.trans s2) R2⟩
    | true => rw [if_pos rfl]; exact q _ S1 p1 _ H1 G1 s1 R1 (.bl true)
  | _ => exact False.elim p1
theorem de_not (ha : DE X W a ta) : DE X W (.UnaryOp .Not a pos) (dNot ta) := by
  refine pe_imp (pe_not ha) fun σ H Q ⟨G, S, P, R, p, q⟩ => ?_
  refine ⟨G, S, _, R, p, fun x S1 p1 v H1 G1 s1 R1 d1 => ?_⟩
  cases x with
  | bl c => cases d1; exact ⟨c, rfl, q _ S1 p1 _ H1 G1 s1 R1 (.bl _)⟩
  | _ => exact False.elim p1
def dIf (t : DTT) (ta tb : DT) : DT := fun S P => t S fun b S1 => onT b (ta S1 P) (tb S1 P)
theorem de_if {t : DTT} (hc : DTe X W c t) (ha : DE X W a ta) (hb : DE X W b tb) : DE X W (.IfExp c a b pos) (dIf t ta tb) := by
  refine pe_imp (pe_ifExp hc ha hb) fun σ H Q ⟨G, S, P, R, p, q⟩ => ?_
  refine ⟨G, S, _, R, p, fun x S1 p1 H1 G1 s1 R1 => ?_⟩
  cases x with
  | true => rw [if_pos rfl]; exact ⟨G1, S1, P, R1, p1, fun c2 S2 p2 v2 H2 G2 s2 R2 => q c2 S2 p2 v2 H2 G2 (s1.trans s2) R2⟩
  | false => rw [if_neg Bool.false_ne_true]; exact ⟨G1, S1, P, R1, p1, fun c2 S2 p2 v2 H2 G2 s2 R2 => q c2 S2 p2 v2 H2 G2 (s1.trans s2) R2⟩
/-- a <= b <= c -/
def dChain (g g' : D → D → (D → Prop) → Prop) (ta tb tc : DT) : DT := fun S P => ta S fun x S1 => tb S1 fun y S2 => g x y fun z => onB z (tc S2 fun w S3 => g' y w fun d => P d S3) (P (.bl false) S2)
/-- an operator whose answer is a bool -/
def DOpB {kk : Dek} (X : Cx) (W : Wd kk) (f : Value → Value → Sem Value) (g : D → D → (D → Prop) → Prop) : Prop := ∃ r : R2, OpR X f r ∧ ∀ (G H : Hp) (σ : L2.St) (S : Ds) (v w : V) (x y : D) (P : D → Prop) (Q : VK), Rep W X.K G H σ S → Dv X.K G v x → Dv X.K G w y → g x y P →
  (∀ b, P (.bl b) → Q (.bl b) H) → r v w H Q
theorem DOpB.op {f : Value → Value → Sem Value} {g : D → D → (D → Prop) → Prop} (h : DOpB X W f g) : DOp X W f g := by
  obtain ⟨r, o, k⟩ := h
  exact ⟨r, o, fun G H σ S v w x y P Q R hv hw hg hq => k G H σ S v w x y P Q R hv hw hg fun b p => hq _ p _ _ _ (Same.refl _) R (.bl b)⟩
theorem DOpB.or {f : Value → Value → Sem Value} {g g' : D → D → (D → Prop) → Prop} (h : DOpB X W f g) (h' : DOpB X W f g') : DOpB X W f (fun x y P => g x y P ∨ g' x y P) := by
  obtain ⟨r, o, k⟩ := h
  obtain ⟨r', o', k'⟩ := h'
  refine ⟨_, o.or o', fun G H σ S v w x y P Q R hv hw hg hq => ?_⟩
  rcases hg with hg | hg
  · exact .inl (k G H σ S v w x y P Q R hv hw hg hq)
  · exact .inr (k' G H σ S v w x y P Q R hv hw hg hq)
theorem DOpB.imp {f : Value → Value → Sem Value} {g g' : D → D → (D → Prop) → Prop} (h : DOpB X W f g) (i : ∀ x y P, g' x y P → g x y P) : DOpB X W f g' := by
  obtain ⟨r, o, k⟩ := h
  exact ⟨r, o, fun G H σ S v w x y P Q R hv hw hg hq => k G H σ S v w x y P Q R hv hw (i _ _ _ hg) hq⟩
theorem lift_chain {r r' : R2} {g g' : D → D → (D → Prop) → Prop} (k : ∀ (G H : Hp) (σ : L2.St) (S : Ds) (v w : V) (x y : D) (P : D → Prop) (Q : VK), Rep W X.K G H σ S → Dv X.K G v x → Dv X.K G w y → g x y P → (∀ b, P (.bl b) → Q (.bl b) H) → r v w H Q)
    (k' : ∀ (G H : Hp) (σ : L2.St) (S : Ds) (v w : V) (x y : D) (P : D → Prop) (Q : VK), Rep W X.K G H σ S → Dv X.K G v x → Dv X.K G w y → g' x y P → (∀ b, P (.bl b) → Q (.bl b) H) → r' v w H Q) (σ : L2.St) (H : Hp) (Q : VK) :
    lift W X.K (dChain g g' ta tb tc) σ H Q → tChain r r' (lift W X.K ta) (lift W X.K tb) (lift W X.K tc) σ H Q := by
  rintro ⟨G, S, P, R, h, q⟩
  refine ⟨G, S, _, R, h, fun x S1 h1 v H1 G1 s1 R1 d1 => ?_⟩
  refine ⟨G1, S1, _, R1, h1, fun y S2 h2 w H2 G2 s2 R2 d2 => ?_⟩
  refine k G2 H2 σ S2 v w x y _ _ R2 (Dv.up s2 _ _ d1) d2 h2 fun b p => ⟨b, rfl, ?_⟩
  cases b with
  | true =>
    rw [if_pos rfl]
    refine ⟨G2, S2, _, R2, p, fun z S3 h3 u H3 G3 s3 R3 d3 => ?_⟩
    exact k' G3 H3 σ S3 w u y z _ _ R3 (Dv.up s3 _ _ d2) d3 h3 fun b p => q _ S3 p _ H3 G3 ((s1.trans s2).trans s3) R3 (.bl b)
  | false => rw [if_neg Bool.false_ne_true]; exact q _ S2 p _ H2 G2 (s1.trans s2) R2 (.bl false)
theorem de_chain {op op' : CmpOp} {g g' : D → D → (D → Prop) → Prop} (ho : DOpB X W (compareOp op) g) (ho' : DOpB X W (compareOp op') g') (ha : DE X W a ta) (hb : DE X W b tb) (hc : DE X W c tc)
    (hm : lastMarks [op, op'] [b, c] = false := by with_unfolding_all rfl) : DE X W (.Compare a [op, op'] [b, c] pos) (dChain g g' ta tb tc) := by
  obtain ⟨r, o, k⟩ := ho
  obtain ⟨r', o', k'⟩ := ho'
  exact pe_imp (pe_chain o o' ha hb hc hm) (lift_chain k k')
/-! ### argument lists, displays -/
def dNil : DTA := fun S P => P [] S
def dCons (t : DT) (u : DTA) : DTA := fun S P => t S fun x S1 => u S1 fun xs S2 => P (x :: xs) S2
theorem da_nil : DA X W [] dNil := pa_imp pa_nil fun σ H Q ⟨G, S, P, R, p, q⟩ => q [] S p [] H G (Same.refl _) R .nil
theorem da_cons {t : DT} {u : DTA} (he : DE X W e t) (hr : DA X W es u) (hs : starEach (e :: es) X.env = (false, eval e X.env) :: starEach es X.env := by rfl) : DA X W (e :: es) (dCons t u) := by
  refine pa_imp (pa_cons he hr hs) fun σ H Q ⟨G, S, P, R, p, q⟩ => ?_
  refine ⟨G, S, _, R, p, fun x S1 p1 v H1 G1 s1 R1 d1 => ?_⟩
  exact ⟨G1, S1, _, R1, p1, fun xs S2 p2 vs H2 G2 s2 R2 d2 => q _ S2 p2 _ H2 G2 (s1.trans s2) R2 (.cons (Dv.up s2 _ _ d1) d2)⟩
def dTup (t : DTA) : DT := fun S P => t S fun ds S1 => ds.length ≤ sizeLine ∧ P (.tup ds) S1
theorem de_tup {t : DTA} {x1} (h : DA X W es t) : DE X W (.Tuple es x1 pos) (dTup t) := by
  refine pe_imp (pe_tup h) fun σ H Q ⟨G, S, P, R, p, q⟩ => ?_
  refine ⟨G, S, _, R, p, fun ds S1 ⟨hz, p1⟩ vs H1 G1 s1 R1 d1 => ⟨by rw [dva_len d1]; exact hz, fun p hp => ?_⟩⟩
  have gp := R1.gh.free hp
  exact q _ S1 p1 _ _ _ (s1.trans (same_upd gp)) (R1.new hp) (.tup upd_same (DvAll.up (same_upd gp) _ _ d1))
/-! ### fresh objects -/
/-- a new object that nobody else knows -/
def liftO {kk : Dek} (W : Wd kk) (K : PySem.W.Frag) (t : DT) : TE := fun σ H Q => ∃ G S P, Rep W K G H σ S ∧ t S P ∧ ∀ d S', P d S' → ∀ a H' G', Same G G' → Rep W K G' H' σ S' → Frsh W G' a → Own K G' H' a d → NoOwn σ S' a → Q (.ref a) H'
def DO {kk : Dek} (X : Cx) (W : Wd kk) (e : Expr) (t : DT) : Prop := PE X e (liftO W X.K t)
theorem Rep.frzN {K : PySem.W.Frag} {G H : Hp} {σ : L2.St} {S : Ds} {a : Addr} {d : D} (R : Rep W K G H σ S) (f : Frsh W G a) (o : Own K G H a d) (no : NoOwn σ S a) : ∃ u, Dv K (upd G a u) (.ref a) d ∧ Rep W K (upd G a u) H σ S := by
  obtain ⟨u, hu, dv⟩ := o.frz f.g
  have g := same_upd (o := u) f.g
  refine ⟨u, dv, ⟨fun b v q => ?_, R.bg.trans g, R.fr, fun b v q => ?_, R.len, fun j s q => ?_, R.ap, R.dk⟩⟩
  · by_cases z : b = a
    · subst z; rw [upd_same] at q; cases q; exact hu
    · rw [upd_ne z] at q; exact R.gh b v q
  · by_cases z : b = a
    · subst z; exact .inr ⟨f.f, f.d⟩
    · rw [upd_ne z] at q; exact R.nw b v q
  · obtain ⟨v, e1, ok⟩ := R.sl j s q
    refine ⟨v, e1, ?_⟩
    cases s with
    | v d' => exact Dv.up g _ _ ok
    | o d' =>
      obtain ⟨b, rfl, f', o'⟩ := ok
      have ne : b ≠ a := fun z => no j d' q (z ▸ e1)
      exact ⟨b, rfl, ⟨by rw [upd_ne ne]; exact f'.g, f'.f, f'.d⟩, o'.up g rfl⟩
theorem DO.de {t : DT} (h : DO X W e t) : DE X W e t := by
  refine pe_imp h fun σ H Q ⟨G, S, P, R, p, q⟩ => ⟨G, S, P, R, p, fun d S1 p1 a H1 G1 s1 R1 f o no => ?_⟩
  obtain ⟨u, dv, R2⟩ := R1.frzN f o no
  exact q d S1 p1 _ H1 _ (s1.trans (same_upd f.g)) R2 dv
theorem noOwn_new {K : PySem.W.Frag} {G H : Hp} {σ : L2.St} {S : Ds} {p : Addr} (R : Rep W K G H σ S) (hp : H p = none) : NoOwn σ S p := fun i d e z => by
  obtain ⟨v, ev, a, rfl, f, o⟩ := R.sl i _ e
  rw [ev] at z
  cases z
  obtain ⟨u, hu⟩ := o.ex
  rw [hp] at hu; cases hu
/-- a new object at p: owned -/
theorem Rep.fresh {K : PySem.W.Frag} {G H : Hp} {σ : L2.St} {S : Ds} {p : Addr} {u : HO} (R : Rep W K G H σ S) (hp : H p = none) : Rep W K G (upd H p u) σ S ∧ Frsh W G p ∧ NoOwn σ S p :=
  ⟨(R.newO (o := u) hp).1, (R.newO (o := u) hp).2, noOwn_new R hp⟩
def dLst (t : DTA) : DT := fun S P => t S fun ds S1 => ds.length ≤ sizeLine ∧ P (.lst ds) S1
theorem do_lst {t : DTA} (h : DA X W es t) : DO X W (.List es pos) (dLst t) := by
  refine pe_imp (pe_lst h) fun σ H Q ⟨G, S, P, R, p, q⟩ => ?_
  refine ⟨G, S, _, R, p, fun ds S1 ⟨hz, p1⟩ vs H1 G1 s1 R1 d1 => ⟨by rw [dva_len d1]; exact hz, fun p hp => ?_⟩⟩
  obtain ⟨R2, f, no⟩ := R1.fresh (u := .lst vs) hp
  exact q _ S1 p1 p _ G1 s1 R2 f ⟨vs, upd_same, d1⟩ no
end
end Dl
namespace Dl
open PySem PySem.Spec PyProof.Rows L2 Sw
/-! ### statements -/
structure DEnds where
  nx : Ds → Prop
  rt : D → Ds → Prop
  bk : Ds → Prop := fun _ => False
  ct : Ds → Prop := fun _ => False
abbrev DST := DEnds → Ds → Prop
structure EndsOk {kk : Dek} (W : Wd kk) (K : PySem.W.Frag) (G0 : Hp) (E : DEnds) (N : Ends) : Prop where
  nx : ∀ S σ H G, Same G0 G → E.nx S → Rep W K G H σ S → N.nx σ H
  rt : ∀ d S σ H G v, Same G0 G → E.rt d S → Rep W K G H σ S → Dv K G v d → N.rt v H
  bk : ∀ S σ H G, Same G0 G → E.bk S → Rep W K G H σ S → N.bk σ H
  ct : ∀ S σ H G, Same G0 G → E.ct S → Rep W K G H σ S → N.ct σ H
theorem EndsOk.up {kk : Dek} {W : Wd kk} {K : PySem.W.Frag} {G0 G1 : Hp} {E : DEnds} {N : Ends} (s : Same G0 G1) (k : EndsOk W K G0 E N) : EndsOk W K G1 E N :=
  ⟨fun S σ H G z => k.nx S σ H G (s.trans z), fun d S σ H G v z => k.rt d S σ H G v (s.trans z), fun S σ H G z => k.bk S σ H G (s.trans z), fun S σ H G z => k.ct S σ H G (s.trans z)⟩
def liftS {kk : Dek} (W : Wd kk) (K : PySem.W.Frag) (t : DST) : TS := fun N σ H => ∃ G S E, Rep W K G H σ S ∧ t E S ∧ EndsOk W K G E N
def DS {kk : Dek} (X : Cx) (W : Wd kk) (st : Stmt) (t : DST) : Prop := PS X st (liftS W X.K t)
def DSs {kk : Dek} (X : Cx) (W : Wd kk) (st : List Stmt) (t : DST) : Prop := PSs X st (liftS W X.K t)
theorem ps_imp {X : Cx} {e : Stmt} {t t' : TS} (h : PS X e t) (i : ∀ N σ H, t' N σ H → t N σ H) : PS X e t' := ⟨fun pins s σ H N I q => h.run pins s σ H N I (i _ _ _ q)⟩
theorem pss_imp {X : Cx} {e : List Stmt} {t t' : TS} (h : PSs X e t) (i : ∀ N σ H, t' N σ H → t N σ H) : PSs X e t' := ⟨fun pins s σ H N I q => h.run pins s σ H N I (i _ _ _ q)⟩
section
variable {X : Cx} {kk : Dek} {W : Wd kk} {a b c e : Expr} {es : List Expr} {ta tb tc te : DT} {pos : Pos} {st : Stmt} {rest : List Stmt} {t u : DST}
def dNext : DST := fun E S => E.nx S
def dSeq (t u : DST) : DST := fun E S => t { E with nx := u E } S
theorem dss_nil : DSs X W [] dNext := pss_imp pss_nil fun N σ H ⟨G, S, E, R, h, ok⟩ => ok.nx S σ H G (Same.refl _) h R
theorem dss_cons (h1 : DS X W st t) (h2 : DSs X W rest u) : DSs X W (st :: rest) (dSeq t u) := by
  refine pss_imp (pss_cons h1 h2) fun N σ H ⟨G, S, E, R, h, ok⟩ => ?_
  exact ⟨G, S, _, R, h, fun S' σ' H' G' s n R' => ⟨G', S', E, R', n, ok.up s⟩, ok.rt, ok.bk, ok.ct⟩
theorem dss_one (h1 : DS X W st t) : DSs X W [st] t := pss_one h1
theorem ds_pass : DS X W (.Pass pos) dNext := ps_imp ps_pass fun N σ H ⟨G, S, E, R, h, ok⟩ => ok.nx S σ H G (Same.refl _) h R
def dBreak : DST := fun E S => E.bk S
def dCont : DST := fun E S => E.ct S
theorem ds_break : DS X W (.Break pos) dBreak := ps_imp ps_break fun N σ H ⟨G, S, E, R, h, ok⟩ => ok.bk S σ H G (Same.refl _) h R
theorem ds_continue : DS X W (.Continue pos) dCont := ps_imp ps_continue fun N σ H ⟨G, S, E, R, h, ok⟩ => ok.ct S σ H G (Same.refl _) h R
def dNever : DST := fun _ _ => False
theorem ds_never : DS X W st dNever := ps_imp ps_never fun N σ H ⟨G, S, E, R, h, ok⟩ => h.elim
theorem dss_never {sts : List Stmt} : DSs X W sts dNever := pss_imp pss_never fun N σ H ⟨G, S, E, R, h, ok⟩ => h.elim
def dRet (te : DT) : DST := fun E S => te S E.rt
theorem ds_ret (he : DE X W e te) : DS X W (.Return (some e) pos) (dRet te) := by
  refine ps_imp (ps_ret he) fun N σ H ⟨G, S, E, R, h, ok⟩ => ?_
  exact ⟨G, S, _, R, h, fun d S' r v H' G' s R' dv => ok.rt d S' σ H' G' v s r R' dv⟩
def dRetN : DST := fun E S => E.rt .non S
theorem ds_retN : DS X W (.Return none pos) dRetN := ps_imp ps_retN fun N σ H ⟨G, S, E, R, h, ok⟩ => ok.rt .non S σ H G _ (Same.refl _) h R .non
def dDrop (te : DT) : DST := fun E S => te S fun _ S' => E.nx S'
theorem ds_expr (he : DE X W e te) (hs : swapsWith e none pos.line X.env = pure false := by rfl) : DS X W (.Expr e pos) (dDrop te) := by
  refine ps_imp (ps_expr he hs) fun N σ H ⟨G, S, E, R, h, ok⟩ => ?_
  exact ⟨G, S, _, R, h, fun d S' r v H' G' s R' dv => ok.nx S' σ H' G' s r R'⟩
def dIfS (c : DTT) (t u : DST) : DST := fun E S => c S fun b S1 => onT b (t E S1) (u E S1)
theorem ds_if {sa sb : List Stmt} {tc : DTT} (hc : DTe X W c tc) (ha : DSs X W sa t) (hb : DSs X W sb u) : DS X W (.If c sa sb pos) (dIfS tc t u) := by
  refine ps_imp (ps_if hc ha hb) fun N σ H ⟨G, S, E, R, h, ok⟩ => ?_
  refine ⟨G, S, _, R, h, fun b S1 h1 H1 G1 s1 R1 => ?_⟩
  cases b with
  | true => rw [if_pos rfl]; exact ⟨G1, S1, E, R1, h1, ok.up s1⟩
  | false => rw [if_neg Bool.false_ne_true]; exact ⟨G1, S1, E, R1, h1, ok.up s1⟩
/-! ### targets -/
abbrev DGT := D → Ds → (Ds → Prop) → Prop
abbrev DGTs := List D → Ds → (Ds → Prop) → Prop
/-- other slots than these stay -/
def Off (is : List Nat) (σ σ' : L2.St) : Prop := σ'.length = σ.length ∧ ∀ i, i ∉ is → σ'[i]? = σ[i]?
theorem Off.refl (σ : L2.St) : Off [] σ σ := ⟨rfl, fun _ _ => rfl⟩
theorem Off.trans {is js : List Nat} {σ σ1 σ2 : L2.St} (a : Off is σ σ1) (b : Off js σ1 σ2) : Off (is ++ js) σ σ2 := ⟨b.1.trans a.1, fun i h => by
  rw [List.mem_append, not_or] at h
  exact (b.2 i h.2).trans (a.2 i h.1)⟩
def liftG {kk : Dek} (W : Wd kk) (K : PySem.W.Frag) (is : List Nat) (t : DGT) : TG := fun v σ H Q => ∃ G S d P, Rep W K G H σ S ∧ Dv K G v d ∧ t d S P ∧ ∀ S', P S' → ∀ σ' H' G', Same G G' → Rep W K G' H' σ' S' → Off is σ σ' → Q σ' H'
def liftGs {kk : Dek} (W : Wd kk) (K : PySem.W.Frag) (is : List Nat) (t : DGTs) : TGs := fun vs σ H Q => ∃ G S ds P, Rep W K G H σ S ∧ DvAll K G vs ds ∧ t ds S P ∧ ∀ S', P S' → ∀ σ' H' G', Same G G' → Rep W K G' H' σ' S' → Off is σ σ' → Q σ' H'
def DG {kk : Dek} (X : Cx) (W : Wd kk) (tg : Expr) (is : List Nat) (t : DGT) : Prop := PG X tg (liftG W X.K is t)
def DGs {kk : Dek} (X : Cx) (W : Wd kk) (tg : List Expr) (is : List Nat) (t : DGTs) : Prop := PGs X tg (liftGs W X.K is t)
theorem pg_imp {X : Cx} {e : Expr} {t t' : TG} (h : PG X e t) (i : ∀ v σ H Q, t' v σ H Q → t v σ H Q) : PG X e t' := ⟨fun pins s σ H v u Q I r q => h.run pins s σ H v u Q I r (i _ _ _ _ q)⟩
theorem pgs_imp {X : Cx} {e : List Expr} {t t' : TGs} (h : PGs X e t) (i : ∀ v σ H Q, t' v σ H Q → t v σ H Q) : PGs X e t' := ⟨fun pins s σ H v u Q I r q => h.run pins s σ H v u Q I r (i _ _ _ _ q)⟩
def gN (i : Nat) : DGT := fun d S P => P ⟨setS S.ρ i (some (.v d)), S.dr⟩
theorem dg_name {i : Nat} {x : Str} (hN : X.N.Nodup) (hi : X.N[i]? = some x) (hx : Loc X.env.scope x) (hf : X.fn x = true ∨ X.env.scope.names.lookup x = some .local := by first | exact .inl rfl | exact .inr rfl | assumption) : DG X W (.Name x pos) [i] (gN i) :=
  pg_imp (pg_name hN hi hx hf) fun v σ H Q ⟨G, S, d, P, R, dv, h, q⟩ => q _ h _ H G (Same.refl _) (R.setV dv) ⟨by rw [List.length_set], fun j hj => List.getElem?_set_ne (fun e => hj (by simp [e]))⟩
def gsNil : DGTs := fun ds S P => match ds with
  | [] => P S
  | _ => False
def gsCons (t : DGT) (u : DGTs) : DGTs := fun ds S P => match ds with
  | d :: r => t d S fun S1 => u r S1 P
  | [] => False
theorem dgs_nil : DGs X W [] [] gsNil := by
  refine pgs_imp pgs_nil fun vs σ H Q ⟨G, S, ds, P, R, dv, h, q⟩ => ?_
  cases dv with
  | nil => exact ⟨rfl, q S h σ H G (Same.refl _) R (Off.refl _)⟩
  | cons _ _ => exact h.elim
theorem dgs_cons {is js : List Nat} {t : DGT} {u : DGTs} (h1 : DG X W e is t) (h2 : DGs X W es js u)
    (hs : (assignEach (e :: es) X.env).map (·.2) = assign e X.env :: (assignEach es X.env).map (·.2) := by rfl) : DGs X W (e :: es) (is ++ js) (gsCons t u) := by
  refine pgs_imp (pgs_cons h1 h2 hs) fun vs σ H Q ⟨G, S, ds, P, R, dv, h, q⟩ => ?_
  cases dv with
  | nil => exact h.elim
  | cons d1 d2 =>
    refine ⟨_, _, rfl, G, S, _, _, R, d1, h, fun S1 p1 σ1 H1 G1 s1 R1 o1 => ?_⟩
    exact ⟨G1, S1, _, P, R1, DvAll.up s1 _ _ d2, p1, fun S2 p2 σ2 H2 G2 s2 R2 o2 => q S2 p2 σ2 H2 G2 (s1.trans s2) R2 (o1.trans o2)⟩
def gT (n : Nat) (t : DGTs) : DGT := fun d S P => match d with
  | .tup ds => ds.length = n ∧ t ds S P
  | _ => False
theorem dg_tup {is : List Nat} {k : Nat} {t : DGTs} {n : Nat} (hc : X.calm = true) (h : DGs X W es is t)
    (hn : (assignEach es X.env).length = n := by rfl) (hst : (assignEach es X.env).findIdx? (·.1) = none := by rfl) : DG X W (.Tuple es k pos) is (gT n t) := by
  refine pg_imp (pg_tup hc h hn hst) fun v σ H Q ⟨G, S, d, P, R, dv, h, q⟩ => ?_
  cases d with
  | tup ds =>
    cases dv with
    | tup h1 h2 => exact ⟨_, _, rfl, SqT.of (R.gh _ _ h1), (dva_len h2).trans h.1, G, S, ds, P, R, h2, h.2, q⟩
  | _ => exact h.elim
def dAsg (te : DT) (g : DGT) : DST := fun E S => te S fun d S1 => g d S1 E.nx
theorem ds_asg {tg : Expr} {is : List Nat} {g : DGT} (he : DE X W e te) (hg : DG X W tg is g) (hs : swapsWithSole [tg] e pos.line X.env = pure false := by rfl) (hw : swappedStores [tg] e X.env = pure none := by rfl)
    (h1 : (assignEach [tg] X.env).map (·.2) = [assign tg X.env] := by rfl) : DS X W (.Assign [tg] e pos) (dAsg te g) := by
  refine ps_imp (ps_asg he hg hs hw h1) fun N σ H ⟨G, S, E, R, h, ok⟩ => ?_
  refine ⟨G, S, _, R, h, fun d S1 p1 v H1 G1 s1 R1 d1 => ?_⟩
  exact ⟨G1, S1, d, _, R1, d1, p1, fun S2 p2 σ2 H2 G2 s2 R2 _ => ok.nx S2 σ2 H2 G2 (s1.trans s2) p2 R2⟩
theorem ds_set {i : Nat} {x : Str} {pos' : Pos} (hN : X.N.Nodup) (hi : X.N[i]? = some x) (hx : Loc X.env.scope x) (he : DE X W e te) (hs : swapsWith e (some (.Name x pos')) pos.line X.env = pure false := by rfl)
    (hf : X.fn x = true ∨ X.env.scope.names.lookup x = some .local := by first | exact .inl rfl | exact .inr rfl | assumption) : DS X W (.Assign [.Name x pos'] e pos) (dAsg te (gN i)) := by
  refine ps_imp (ps_set hN hi hx he hs hf) fun N σ H ⟨G, S, E, R, h, ok⟩ => ?_
  exact ⟨G, S, _, R, h, fun d S1 p1 v H1 G1 s1 R1 d1 => ok.nx _ _ H1 G1 s1 p1 (R1.setV d1)⟩
/-- name = a new object, which the slot owns -/
def dSetO (te : DT) (i : Nat) : DST := fun E S => te S fun d S1 => E.nx ⟨setS S1.ρ i (some (.o d)), S1.dr⟩
theorem ds_setO {i : Nat} {x : Str} {pos' : Pos} (hN : X.N.Nodup) (hi : X.N[i]? = some x) (hx : Loc X.env.scope x) (he : DO X W e te) (hs : swapsWith e (some (.Name x pos')) pos.line X.env = pure false := by rfl)
    (hf : X.fn x = true ∨ X.env.scope.names.lookup x = some .local := by first | exact .inl rfl | exact .inr rfl | assumption) : DS X W (.Assign [.Name x pos'] e pos) (dSetO te i) := by
  refine ps_imp (ps_set hN hi hx he hs hf) fun N σ H ⟨G, S, E, R, h, ok⟩ => ?_
  exact ⟨G, S, _, R, h, fun d S1 p1 a H1 G1 s1 R1 f o no => ok.nx _ _ H1 G1 s1 p1 (R1.setO f o no)⟩
/-! ### for -/
/-- what is walked: its items -/
abbrev DIT := Ds → (List D → Ds → Prop) → Prop
/-- an item comes: the heap may have grown by it -/
def Comes (kk : Dek) (K : PySem.W.Frag) (G H H' : Hp) (x : V) (d : D) : Prop := ∀ (W : Wd kk) G1 σ1 S1, Same G G1 → Rep W K G1 H σ1 S1 → ∃ G2, Same G1 G2 ∧ Rep W K G2 H' σ1 S1 ∧ Dv K G2 x d
def liftI {kk : Dek} (W : Wd kk) (K : PySem.W.Frag) (t : DIT) : TI := fun σ H R => ∃ G S P, Rep W K G H σ S ∧ t S P ∧ ∀ ds S', P ds S' → ∀ H' G', Same G G' → Rep W K G' H' σ S' →
  ∀ J Gd Y, Walk J ds.length Gd Y → (∀ H1, Same G' H1 → Gd H1) → (∀ i H1 x H2, i < ds.length → Y i H1 x H2 → ∃ d, ds[i]? = some d ∧ Comes kk K G' H1 H2 x d) → R J H'
def DI {kk : Dek} (X : Cx) (W : Wd kk) (tg it : Expr) (t : DIT) : Prop := PI X tg it (liftI W X.K t)
theorem pi_imp {X : Cx} {tg e : Expr} {t t' : TI} (h : PI X tg e t) (i : ∀ σ H R, t' σ H R → t σ H R) : PI X tg e t' := ⟨fun pins s σ H R I q => h.run pins s σ H R I (i _ _ _ q)⟩
theorem comes_same {kk : Dek} {K : PySem.W.Frag} {G H : Hp} {x : V} {d : D} (h : Dv K G x d) : Comes kk K G H H x d := fun W G1 σ1 S1 s R => ⟨G1, Same.refl _, R, Dv.up s _ _ h⟩
def forL (g : DGT) (tb : DST) (E : DEnds) : List D → Ds → Prop
  | [], S => E.nx S
  | d :: ds, S => g d S fun S1 => tb { E with nx := forL g tb E ds, ct := forL g tb E ds, bk := E.nx } S1
def dFor (ti : DIT) (g : DGT) (tb : DST) : DST := fun E S => ti S fun ds S1 => forL g tb E ds S1
theorem drop_cons {α : Type} {l : List α} {i : Nat} {d : α} (e : l[i]? = some d) : l.drop i = d :: l.drop (i + 1) := by
  obtain ⟨h, e⟩ := List.getElem?_eq_some_iff.mp e
  rw [← e]; exact List.drop_eq_getElem_cons h
theorem ds_for {is : List Nat} {iter tg : Expr} {body : List Stmt} {ti : DIT} {g : DGT} {tb : DST} (hp : PassesOwn (model X.prog X.w) X.A X.env X.xe) (hc : X.calm = true) (hi : DI X W tg iter ti) (hg : DG X W tg is g) (hb : DSs X W body tb)
    (hs : ∀ x, foldedSetIterable iter X.env x = pure x := by intro _; rfl) : DS X W (.For tg iter body [] pos) (dFor ti g tb) := by
  refine ps_imp (ps_for hp hc hi hg hb hs) fun N σ H ⟨G, S, E, R, h, ok⟩ => ?_
  refine ⟨G, S, _, R, h, fun ds S1 p1 H1 G1 s1 R1 J Gd Y wk gd yl => ?_⟩
  refine for_it wk (fun i σ2 H2 => ∃ G2 S2, Same G1 G2 ∧ Rep W X.K G2 H2 σ2 S2 ∧ forL g tb E (ds.drop i) S2) ⟨G1, S1, Same.refl _, R1, by rw [List.drop_zero]; exact p1⟩ (fun i σ2 H2 _ ⟨G2, S2, s2, R2, _⟩ => gd H2 (s2.trans R2.gh)) ?_ ?_
  · rintro i x σ2 H2 H3 hi ⟨G2, S2, s2, R2, p2⟩ y
    obtain ⟨d, ed, co⟩ := yl i H2 x H3 hi y
    obtain ⟨G3, s3, R3, d3⟩ := co W G2 σ2 S2 s2 R2
    rw [drop_cons ed] at p2
    refine ⟨G3, S2, d, _, R3, d3, p2, fun S4 p4 σ4 H4 G4 s4 R4 _ => ?_⟩
    have s14 := (s2.trans s3).trans s4
    have k4 := (ok.up s1).up s14
    exact ⟨G4, S4, _, R4, p4, ⟨fun S5 σ5 H5 G5 z n R5 => ⟨_, S5, s14.trans z, R5, n⟩, k4.rt, fun S5 σ5 H5 G5 z n R5 => k4.nx S5 σ5 H5 G5 z n R5, fun S5 σ5 H5 G5 z n R5 => ⟨_, S5, s14.trans z, R5, n⟩⟩⟩
  · rintro σ2 H2 ⟨G2, S2, s2, R2, p2⟩
    rw [List.drop_length] at p2
    exact ok.nx S2 σ2 H2 G2 (s1.trans s2) p2 R2
end
end Dl
namespace Dl
open PySem PySem.Spec PyProof.Rows L2 Sw
/-! ### defs -/
abbrev DSp := List D → Int → (D → Int → Prop) → Prop
def spL (K : PySem.W.Frag) (k : Dek) (sp : DSp) : Sp := fun vs H Q _ => ∃ G ds n P, Same G H ∧ (∀ a ∈ k.dk, G a = none) ∧ k.deck H n ∧ DvAll K G vs ds ∧ sp ds n P ∧
  ∀ d n', P d n' → ∀ v H' G', Same G G' → Same G' H' → (∀ a o, G' a = some o → G a = some o ∨ (H a = none ∧ a ∉ k.dk)) → (∀ a o, H a = some o → a ∉ k.dk → H' a = some o) → k.deck H' n' → Dv K G' v d → Q v H'
def FnD (P : Program) (w : World) (K : PySem.W.Frag) (mg : Str → Option Value) (base : Heap) (l : Nat) (f : Addr) (fd : FuncData) (ps : List Str) (k : Dek) (sp : DSp) : Prop := FnG P w K mg base l f fd ps (spL K k sp)
def startD : List Str → List D → List (Option Sl)
  | _ :: N, d :: ds => some (.v d) :: startD N ds
  | _ :: N, [] => none :: startD N []
  | [], _ => []
theorem startD_len : ∀ (N : List Str) (ds : List D), (startD N ds).length = N.length
  | _ :: N, _ :: ds => by rw [startD, List.length_cons, List.length_cons, startD_len N ds]
  | _ :: N, [] => by rw [startD, List.length_cons, List.length_cons, startD_len N []]
  | [], _ => rfl
theorem getS_start : ∀ {N : List Str} {ds : List D} {i : Nat} {s : Sl}, getS (startD N ds) i = some s → ∃ d, s = .v d ∧ ds[i]? = some d
  | _ :: N, d :: ds, 0, s, h => by
    have h : some (Sl.v d) = some s := h
    cases h
    exact ⟨d, rfl, rfl⟩
  | _ :: N, d :: ds, i + 1, s, h => by
    obtain ⟨d', h1, h2⟩ := getS_start (N := N) (ds := ds) (i := i) h
    exact ⟨d', h1, by simpa using h2⟩
  | _ :: N, [], 0, s, h => by cases h
  | _ :: N, [], i + 1, s, h => by
    obtain ⟨d', h1, h2⟩ := getS_start (N := N) (ds := []) (i := i) h
    simp at h2
  | [], _, _, _, h => by cases h
theorem getS_get : ∀ (l : List (Option Sl)) (i : Nat) (s : Sl), getS l i = some s ↔ l[i]? = some (some s)
  | [], i, s => by simp [getS]
  | x :: l, 0, s => by simp [getS]
  | x :: l, i + 1, s => by simpa [getS] using getS_get l i s
theorem rep_start {K : PySem.W.Frag} {k : Dek} {G H : Hp} {n : Int} {vs : List V} {ds : List D} {N : List Str} (hl : ds.length ≤ N.length) (s : Same G H) (g : ∀ a ∈ k.dk, G a = none) (d : k.deck H n) (dv : DvAll K G vs ds) :
    Rep (Wd.of k G H g) K G H (L2.start N vs) ⟨startD N ds, n⟩ := by
  have lv := dva_len dv
  refine ⟨s, Same.refl _, fun a o e => ?_, fun a o e => .inl e, ?_, fun i s e => ?_, fun i j d e a _ q => ?_, d⟩
  · have e : (if a ∈ k.dk then none else H a) = some o := e
    split at e
    · cases e
    · exact e
  · rw [startD_len]
    unfold L2.start
    simp only [List.length_append, List.length_map, List.length_replicate]; omega
  · obtain ⟨d, rfl, ed⟩ := getS_start e
    obtain ⟨v, ev, dv'⟩ := dva_get' dv ed
    refine ⟨v, ?_, dv'⟩
    unfold L2.start
    have hi := (List.getElem?_eq_some_iff.mp ev).1
    rw [List.getElem?_append_left (by simpa using hi), List.getElem?_map, ev]; rfl
  · obtain ⟨_, z, _⟩ := getS_start q
    cases z
section
variable {P : Program} {w : World} {K : PySem.W.Frag} {mg : Str → Option Value} {base : Heap} {l : Nat} {f : Addr} {fd : FuncData} {ps : List Str} {k : Dek} {sp : DSp}
/-- a def, by its body over data -/
theorem fnd_of {x q : Str} {pa : Arguments} {bo : List Stmt} {sc : Scope} {N : List Str} (F : FunD K x q pa bo sc [] [] f fd) (S : FnScope N ps sc) (hl : ∀ ds n P, sp ds n P → ds.length = ps.length)
    (hbo : ∀ (cv : Value) (A : Around) (out : List Env) (s : Shared) (H : Hp) (E : XK) (W : Wd k) (ds : List D) (n : Int) (Q : D → Int → Prop), A.guards = some [] → Room l (A.deeper (envOfC q sc s.heap.objs.size f cv)) → sp ds n Q →
      ∃ t, DSs (cxOf CX0 P w K mg base N q sc f cv A out s H E) W bo t ∧ t { nx := fun S => Q .non S.dr, rt := fun d S => Q d S.dr } ⟨startD N ds, n⟩) : FnD P w K mg base (l + 1) f fd ps k sp := by
  have lN : ps.length ≤ N.length := by have := congrArg List.length S.pre; rw [List.length_take] at this; omega
  refine fng_of F S (fun vs H Q E ⟨G, ds, n, P, _, _, _, dv, h, _⟩ => (dva_len dv).trans (hl _ _ _ h)) fun cv A out s H vs Q E hG hr ⟨G, ds, n, R, sGH, g, dk, dv, h, q⟩ => ?_
  obtain ⟨t, ht, hq⟩ := hbo cv A out s H E (Wd.of k G H g) ds n R hG hr h
  have R0 := rep_start (K := K) (N := N) (by rw [hl _ _ _ h]; exact lN) sGH g dk dv
  have fin : ∀ d S' σ H' G' v, Same G G' → R d S'.dr → Rep (Wd.of k G H g) K G' H' σ S' → Dv K G' v d → Q v H' := fun d S' σ H' G' v s' r R' dv' => by
    refine q d S'.dr r v H' G' s' R'.gh (fun a o e => ?_) (fun a o e m => R'.fr a o ?_) R'.dk dv'
    · rcases R'.nw a o e with e | ⟨e, m⟩
      · exact .inl e
      · refine .inr ⟨?_, m⟩
        have e : (if a ∈ k.dk then none else H a) = none := e
        exact (if_neg (show a ∉ k.dk from m)).symm.trans e
    · show (if a ∈ k.dk then none else H a) = some o
      exact (if_neg (show a ∉ k.dk from m)).trans e
  exact ⟨_, ht, G, _, _, R0, hq, ⟨fun S' σ H' G' s' r R' => fin .non S' σ H' G' .non s' r R' .non, fun d S' σ H' G' v s' r R' dv' => fin d S' σ H' G' v s' r R' dv', fun _ _ _ _ _ z => z.elim, fun _ _ _ _ _ z => z.elim⟩⟩
end
section
variable {X : Cx} {kk : Dek} {W : Wd kk} {l : Nat} {f : Addr} {fd : FuncData} {ps : List Str} {sp : DSp} {x : Str} {p pos : Pos} {e : Expr} {es : List Expr} {t : DTA}
def dCall (sp : DSp) (t : DTA) : DT := fun S P => t S fun ds S1 => sp ds S1.dr fun d n => P d ⟨S1.ρ, n⟩
/-- behind a call -/
theorem after_call {K : PySem.W.Frag} {G H : Hp} {σ : L2.St} {S : Ds} {ds : List D} {vs : List V} {P : D → Ds → Prop} {Q : VK} {E : XK} (R : Rep W K G H σ S) (dv : DvAll K G vs ds) (h : sp ds S.dr fun d n => P d ⟨S.ρ, n⟩)
    (q : ∀ d S', P d S' → ∀ v H' G', Same G G' → Rep W K G' H' σ S' → Dv K G' v d → Q v H') : spL K kk sp vs H Q E :=
  ⟨G, ds, S.dr, _, R.gh, R.gdk, R.dk, dv, h, fun d n' p v H' G' s1 s2 new old dk dv' => q d _ p v H' G' s1 (R.grow s1 s2 new old dk) dv'⟩
theorem de_call (hG : X.A.guards = some []) (F : FnD X.prog X.w X.K X.mg X.base l f fd ps kk sp) (hr : Room l X.A) (hg : Gl X x) (hm : X.mg x = some (.ref f)) (hk : PySem.W.keepIn X.K (.ref f) = true) (hb : Binds X.K fd ps [])
    (ha : DA X W (e :: es) t) (hd : (x == ("__debug__" : Str)) = false := by decide) (he : starEach (e :: es) X.env = (false, eval e X.env) :: starEach es X.env := by rfl)
    (hp : (backTo pos (starEach es X.env)).any (·.1) = false := by rfl) : DE X W (.Call (.Name x p) (e :: es) [] pos) (dCall sp t) := by
  refine pe_imp (pe_callG hG F hr hg hm hk hb ha hd he hp) fun σ H Q ⟨G, S, P, R, h, q⟩ => ?_
  exact ⟨G, S, _, R, h, fun ds S1 p1 vs H1 G1 s1 R1 dv => after_call R1 dv p1 fun d S2 p2 v H2 G2 s2 R2 dv2 => q d S2 p2 v H2 G2 (s1.trans s2) R2 dv2⟩
/-! ### built-in defs -/
def DCal {kk : Dek} (X : Cx) (W : Wd kk) (f : Value) (g : List D → (D → Prop) → Prop) : Prop := ∃ r, CallR X f r ∧ ∀ (G H : Hp) (σ : L2.St) (S : Ds) (vs : List V) (ds : List D) (P : D → Prop) (Q : VK), Rep W X.K G H σ S → DvAll X.K G vs ds → g ds P →
  (∀ d, P d → ∀ u H' G', Same G G' → Rep W X.K G' H' σ S → Dv X.K G' u d → Q u H') → r vs H Q
def dCB (g : List D → (D → Prop) → Prop) (t : DTA) : DT := fun S P => t S fun ds S1 => g ds fun d => P d S1
theorem DCal.or {f : Value} {g g' : List D → (D → Prop) → Prop} (h : DCal X W f g) (h' : DCal X W f g') : DCal X W f (fun x P => g x P ∨ g' x P) := by
  obtain ⟨r, o, k⟩ := h
  obtain ⟨r', o', k'⟩ := h'
  refine ⟨_, o.or o', fun G H σ S vs ds P Q R hv hg hq => ?_⟩
  rcases hg with hg | hg
  · exact .inl (k G H σ S vs ds P Q R hv hg hq)
  · exact .inr (k' G H σ S vs ds P Q R hv hg hq)
theorem DCal.imp {f : Value} {g g' : List D → (D → Prop) → Prop} (h : DCal X W f g) (i : ∀ x P, g' x P → g x P) : DCal X W f g' := by
  obtain ⟨r, o, k⟩ := h
  exact ⟨r, o, fun G H σ S vs ds P Q R hv hg hq => k G H σ S vs ds P Q R hv (i _ _ hg) hq⟩
theorem lift_cb {r : List V → Hp → VK → Prop} {g : List D → (D → Prop) → Prop} (k : ∀ (G H : Hp) (σ : L2.St) (S : Ds) (vs : List V) (ds : List D) (P : D → Prop) (Q : VK), Rep W X.K G H σ S → DvAll X.K G vs ds → g ds P →
    (∀ d, P d → ∀ u H' G', Same G G' → Rep W X.K G' H' σ S → Dv X.K G' u d → Q u H') → r vs H Q) (σ : L2.St) (H : Hp) (Q : VK) : lift W X.K (dCB g t) σ H Q → tCB r (liftA W X.K t) σ H Q := by
  rintro ⟨G, S, P, R, h, q⟩
  exact ⟨G, S, _, R, h, fun ds S1 p1 vs H1 G1 s1 R1 dv => k G1 H1 σ S1 vs ds _ _ R1 dv p1 fun d p2 u H' G' s' R' dv' => q d S1 p2 u H' G' (s1.trans s') R' dv'⟩
theorem de_callB {id : String} {g : List D → (D → Prop) → Prop} (hc : DCal X W (.builtin id) g) (hg : Gl X x) (hm : X.mg x = none) (hv : bootBuiltins x = some (.builtin id)) (ha : DA X W (e :: es) t) (hn : x ≠ "__name__" := by decide) (hdb : (x == ("__debug__" : Str)) = false := by decide)
    (he : starEach (e :: es) X.env = (false, eval e X.env) :: starEach es X.env := by rfl) (hpl : (backTo pos (starEach es X.env)).any (·.1) = false := by rfl) : DE X W (.Call (.Name x p) (e :: es) [] pos) (dCB g t) := by
  obtain ⟨r, o, k⟩ := hc
  exact pe_imp (pe_callB o hg hm hv ha hn hdb he hpl) (lift_cb k)
theorem de_callTy {T : String} {g : List D → (D → Prop) → Prop} (hc : DCal X W (.type T) g) (hg : Gl X x) (hm : X.mg x = none) (hv : bootBuiltins x = some (.type T)) (ha : DA X W (e :: es) t) (hn : x ≠ "__name__" := by decide) (hdb : (x == ("__debug__" : Str)) = false := by decide)
    (he : starEach (e :: es) X.env = (false, eval e X.env) :: starEach es X.env := by rfl) (hpl : (backTo pos (starEach es X.env)).any (·.1) = false := by rfl) : DE X W (.Call (.Name x p) (e :: es) [] pos) (dCB g t) := by
  obtain ⟨r, o, k⟩ := hc
  exact pe_imp (pe_callTy o hg hm hv ha hn hdb he hpl) (lift_cb k)
/-- .. that makes a new object -/
def DCalO {kk : Dek} (X : Cx) (W : Wd kk) (f : Value) (g : List D → (D → Prop) → Prop) : Prop := ∃ r, CallR X f r ∧ ∀ (G H : Hp) (σ : L2.St) (S : Ds) (vs : List V) (ds : List D) (P : D → Prop) (Q : VK), Rep W X.K G H σ S → DvAll X.K G vs ds → g ds P →
  (∀ d, P d → ∀ a H' G', Same G G' → Rep W X.K G' H' σ S → Frsh W G' a → Own X.K G' H' a d → NoOwn σ S a → Q (.ref a) H') → r vs H Q
theorem lift_cbO {r : List V → Hp → VK → Prop} {g : List D → (D → Prop) → Prop} (k : ∀ (G H : Hp) (σ : L2.St) (S : Ds) (vs : List V) (ds : List D) (P : D → Prop) (Q : VK), Rep W X.K G H σ S → DvAll X.K G vs ds → g ds P →
    (∀ d, P d → ∀ a H' G', Same G G' → Rep W X.K G' H' σ S → Frsh W G' a → Own X.K G' H' a d → NoOwn σ S a → Q (.ref a) H') → r vs H Q) (σ : L2.St) (H : Hp) (Q : VK) : liftO W X.K (dCB g t) σ H Q → tCB r (liftA W X.K t) σ H Q := by
  rintro ⟨G, S, P, R, h, q⟩
  exact ⟨G, S, _, R, h, fun ds S1 p1 vs H1 G1 s1 R1 dv => k G1 H1 σ S1 vs ds _ _ R1 dv p1 fun d p2 a H' G' s' R' f o no => q d S1 p2 a H' G' (s1.trans s') R' f o no⟩
theorem do_callB {id : String} {g : List D → (D → Prop) → Prop} (hc : DCalO X W (.builtin id) g) (hg : Gl X x) (hm : X.mg x = none) (hv : bootBuiltins x = some (.builtin id)) (ha : DA X W (e :: es) t) (hn : x ≠ "__name__" := by decide) (hdb : (x == ("__debug__" : Str)) = false := by decide)
    (he : starEach (e :: es) X.env = (false, eval e X.env) :: starEach es X.env := by rfl) (hpl : (backTo pos (starEach es X.env)).any (·.1) = false := by rfl) : DO X W (.Call (.Name x p) (e :: es) [] pos) (dCB g t) := by
  obtain ⟨r, o, k⟩ := hc
  exact pe_imp (pe_callB o hg hm hv ha hn hdb he hpl) (lift_cbO k)
theorem do_callTy {T : String} {g : List D → (D → Prop) → Prop} (hc : DCalO X W (.type T) g) (hg : Gl X x) (hm : X.mg x = none) (hv : bootBuiltins x = some (.type T)) (ha : DA X W (e :: es) t) (hn : x ≠ "__name__" := by decide) (hdb : (x == ("__debug__" : Str)) = false := by decide)
    (he : starEach (e :: es) X.env = (false, eval e X.env) :: starEach es X.env := by rfl) (hpl : (backTo pos (starEach es X.env)).any (·.1) = false := by rfl) : DO X W (.Call (.Name x p) (e :: es) [] pos) (dCB g t) := by
  obtain ⟨r, o, k⟩ := hc
  exact pe_imp (pe_callTy o hg hm hv ha hn hdb he hpl) (lift_cbO k)
end
end Dl
namespace Dl
open PySem PySem.Spec PyProof.Rows L2 Sw RT RZ
/-! ### what is walked -/
section
variable {kk : Dek} {X : Cx} {W : Wd kk} {tg e e2 : Expr} {t t2 : DT} {ta : DTA} {p pos tpos : Pos}
/-- a list, a tuple, a text, by its value -/
def iAny (K : PySem.W.Frag) (tl : TE) : TI := fun σ H R => tl σ H fun x H1 => (∃ a xs, x = .ref a ∧ SqL K H1 a xs ∧ R (Itl K a) H1) ∨ (∃ a xs, x = .ref a ∧ SqT K H1 a xs ∧ R (Itt K a) H1) ∨ ∃ z, x = .str z ∧ R (Its z) H1
theorem pi_any {l : Expr} {tl : TE} (hl : PE X l tl) : PI X tg l (iAny X.K tl) := by
  constructor
  intro pins s σ H R I h
  refine thn (hl.run pins s σ H _ I h) ?_
  rintro v s1 ⟨x, H1, J, r1, q⟩
  rcases q with ⟨a, xs, rfl, hq, q⟩ | ⟨a, xs, rfl, hq, q⟩ | ⟨z, rfl, q⟩
  · cases r1
    obtain ⟨its, _, pl, _⟩ := J.list hq
    refine wpAny_pyIter_list pl.isList ⟨s1.heap.objs.size, [s1.heap.objs.size], _, _, H1, rfl, J.kept (t' := s1.toks) fun b o z => Heap.get?_push_of_some _ z, turn_list a _, ⟨_, Heap.get?_push_size _ rfl, rfl, rfl⟩, fun b hb => ?_, q⟩
    obtain rfl : b = s1.heap.objs.size := by simpa using hb
    exact J.fpOk (Nat.le_refl _) (J.hok.fresh (Nat.le_refl _))
  · cases r1
    obtain ⟨its, _, pl, _⟩ := J.tuple hq
    refine wpAny_pyIter_tuple (show s1.heap.IsTuple a its.toArray from pl) ⟨s1.heap.objs.size, [s1.heap.objs.size], _, _, H1, rfl, J.kept (t' := s1.toks) fun b o z => Heap.get?_push_of_some _ z, turn_tuple a _, ⟨_, Heap.get?_push_size _ rfl, rfl, rfl⟩, fun b hb => ?_, q⟩
    obtain rfl : b = s1.heap.objs.size := by simpa using hb
    exact J.fpOk (Nat.le_refl _) (J.hok.fresh (Nat.le_refl _))
  · obtain ⟨t, rfl⟩ := r1
    cases hz : z.cps.all (· < 128)
    · exact wpAny_pyIter_wide hz (pi_one (tk := s1.toks) J _ (turn_str _ z t "str_iterator" (.inr rfl)) ⟨_, Heap.get?_push_size _ rfl, rfl, rfl⟩ q)
    · exact wpAny_pyIter_ascii hz (pi_one (tk := s1.toks) J _ (turn_str _ z t "str_ascii_iterator" (.inl rfl)) ⟨_, Heap.get?_push_size _ rfl, rfl, rfl⟩ q)
def chr (c : Nat) : Str := ⟨#[c]⟩
/-- the items of a value -/
def items : D → Option (List D)
  | .lst ds => some ds
  | .tup ds => some ds
  | .str z => some (z.cps.toList.map fun c => .str (chr c))
  | _ => none
def dIAny (t : DT) : DIT := fun S P => t S fun x S1 => match items x with
  | some ds => P ds S1
  | none => False
theorem yat_comes {G : Hp} {vs : List V} {ds : List D} (dv : DvAll X.K G vs ds) {i : Nat} {H1 H2 : Hp} {x : V} (hi : i < ds.length) (y : YAt vs i H1 x H2) : ∃ d, ds[i]? = some d ∧ Comes kk X.K G H1 H2 x d := by
  obtain ⟨rfl, ex⟩ := y
  obtain ⟨d, e1, e2⟩ := dva_get dv ex
  exact ⟨d, e1, comes_same e2⟩
theorem di_any (h : DE X W e t) : DI X W tg e (dIAny t) := by
  refine pi_imp (pi_any h) fun σ H R ⟨G, S, P, Rp, p, q⟩ => ?_
  refine ⟨G, S, _, Rp, p, fun x S1 p1 v H1 G1 s1 R1 d1 => ?_⟩
  cases x with
  | lst ds =>
    cases d1 with
    | @lst a xs _ h1 h2 =>
      have l := dva_len h2
      exact .inl ⟨a, xs, rfl, SqL.of (R1.gh _ _ h1), q ds S1 p1 H1 G1 s1 R1 _ _ _ (by rw [← l]; exact walk_list) (fun H2 s2 => SqL.of (s2 _ _ h1)) fun i H2 x H3 hi y => yat_comes h2 hi y⟩
  | tup ds =>
    cases d1 with
    | @tup a xs _ h1 h2 =>
      have l := dva_len h2
      exact .inr (.inl ⟨a, xs, rfl, SqT.of (R1.gh _ _ h1), q ds S1 p1 H1 G1 s1 R1 _ _ _ (by rw [← l]; exact walk_tup) (fun H2 s2 => SqT.of (s2 _ _ h1)) fun i H2 x H3 hi y => yat_comes h2 hi y⟩)
  | str z =>
    cases d1
    refine .inr (.inr ⟨z, rfl, q _ S1 p1 H1 G1 s1 R1 _ _ _ (by rw [List.length_map, Array.length_toList]; exact walk_str) (fun _ _ => trivial) fun i H2 x H3 hi y => ?_⟩)
    obtain ⟨rfl, c, ec, rfl⟩ := y
    exact ⟨.str (chr c), by rw [List.getElem?_map, Array.getElem?_toList, ec]; rfl, comes_same (.str _)⟩
  | _ => exact False.elim p1
/-- range(n), range(m, n) -/
def upto (lo : Int) (n : Nat) : List D := (List.range n).map fun i => .int (lo + (i : Nat))
def dIR1 (ta : DTA) : DIT := fun S P => ta S fun ds S1 => match ds with
  | [.int j] => (-(2 ^ 62) ≤ j ∧ j < 2 ^ 62) ∧ P (upto 0 j.toNat) S1
  | _ => False
def dIR2 (ta : DTA) : DIT := fun S P => ta S fun ds S1 => match ds with
  | [.int i, .int j] => (-(2 ^ 62) ≤ i ∧ i < 2 ^ 62 ∧ -(2 ^ 62) ≤ j ∧ j < 2 ^ 62) ∧ P (upto i (j - i).toNat) S1
  | _ => False
theorem rng_comes {G : Hp} {lo : Int} {n i : Nat} {H1 H2 : Hp} {x : V} (hi : i < (upto lo n).length) (y : YFn (fun i => V.int (lo + (i : Nat))) i H1 x H2) : ∃ d, (upto lo n)[i]? = some d ∧ Comes kk X.K G H1 H2 x d := by
  obtain ⟨rfl, rfl⟩ := y
  unfold upto at hi ⊢
  rw [List.length_map, List.length_range] at hi
  exact ⟨.int (lo + (i : Nat)), by rw [List.getElem?_map, List.getElem?_range hi]; rfl, comes_same (.int _)⟩
theorem di_range1 (hg : Gl X "range") (hm : X.mg "range" = none) (ha : DA X W [e] ta) (hs : starEach [e] X.env = [(false, eval e X.env)] := by rfl) : DI X W tg (.Call (.Name "range" p) [e] [] pos) (dIR1 ta) := by
  refine pi_imp (pi_range1 hg hm ha hs) fun σ H R ⟨G, S, P, Rp, p, q⟩ => ?_
  refine ⟨G, S, _, Rp, p, fun ds S1 p1 vs H1 G1 s1 R1 d1 => ?_⟩
  match ds, d1, p1 with
  | [.int j], .cons (.int _) .nil, ⟨⟨b1, b2⟩, p1⟩ =>
    exact ⟨j, rfl, b1, b2, q _ S1 p1 H1 G1 s1 R1 _ _ _ (by rw [upto, List.length_map, List.length_range]; exact walk_range) (fun _ _ => trivial) fun i H2 x H3 hi y => rng_comes hi y⟩
theorem di_range2 {a b : Expr} (hg : Gl X "range") (hm : X.mg "range" = none) (ha : DA X W [a, b] ta) (hs : starEach [a, b] X.env = [(false, eval a X.env), (false, eval b X.env)] := by rfl) (hs2 : starEach [b] X.env = [(false, eval b X.env)] := by rfl) :
    DI X W tg (.Call (.Name "range" p) [a, b] [] pos) (dIR2 ta) := by
  refine pi_imp (pi_range2 hg hm ha hs hs2) fun σ H R ⟨G, S, P, Rp, p, q⟩ => ?_
  refine ⟨G, S, _, Rp, p, fun ds S1 p1 vs H1 G1 s1 R1 d1 => ?_⟩
  match ds, d1, p1 with
  | [.int i0, .int j], .cons (.int _) (.cons (.int _) .nil), ⟨b1, p1⟩ =>
    exact ⟨i0, j, rfl, b1, q _ S1 p1 H1 G1 s1 R1 _ _ _ (by rw [upto, List.length_map, List.length_range]; exact walk_range) (fun _ _ => trivial) fun i H2 x H3 hi y => rng_comes hi y⟩
/-- a pair comes -/
theorem pair_comes {G H1 H2 : Hp} {x u v : V} {d1 d2 : D} {T : Addr} (ex : x = .ref T) (hT : H1 T = none) (eH : H2 = upd H1 T (.tup [u, v])) (h1 : Dv X.K G u d1) (h2 : Dv X.K G v d2) : Comes kk X.K G H1 H2 x (.tup [d1, d2]) := by
  intro W G1 σ1 S1 s R
  subst ex eH
  have g := same_upd (o := .tup [u, v]) (R.gh.free hT)
  exact ⟨_, g, R.new hT, .tup upd_same (.cons (Dv.up (s.trans g) _ _ h1) (.cons (Dv.up (s.trans g) _ _ h2) .nil))⟩
def zipD (ds es : List D) : List D := (ds.zip es).map fun p => .tup [p.1, p.2]
def dIZip (ta : DTA) : DIT := fun S P => ta S fun ds S1 => match ds with
  | [.tup a, .tup b] => P (zipD a b) S1
  | [.lst a, .lst b] => P (zipD a b) S1
  | _ => False
theorem zip_comes {G : Hp} {xs ys : List V} {ds es : List D} (h1 : DvAll X.K G xs ds) (h2 : DvAll X.K G ys es) {i : Nat} {H1 H2 : Hp} {x : V} (hi : i < (zipD ds es).length) (y : YPair (fun i => xs[i]?) (fun i => ys[i]?) i H1 x H2) :
    ∃ d, (zipD ds es)[i]? = some d ∧ Comes kk X.K G H1 H2 x d := by
  obtain ⟨T, u, v, ex, hT, eH, eu, ev⟩ := y
  obtain ⟨d, ed, dd⟩ := dva_get h1 eu
  obtain ⟨f, ef, df⟩ := dva_get h2 ev
  refine ⟨.tup [d, f], ?_, pair_comes ex hT eH dd df⟩
  unfold zipD
  rw [List.getElem?_map, show (ds.zip es)[i]? = some (d, f) from List.getElem?_zip_eq_some.mpr ⟨ed, ef⟩]; rfl
theorem zipD_len (ds es : List D) : (zipD ds es).length = min ds.length es.length := by unfold zipD; rw [List.length_map, List.length_zip]
theorem walk_zipT {K : PySem.W.Frag} {a b : Addr} {xs ys : List V} {n : Nat} (hn : n = min xs.length ys.length) : Walk (ItzT K a b) n (fun H => SqT K H a xs ∧ SqT K H b ys) (YPair (fun i => xs[i]?) (fun i => ys[i]?)) := by
  constructor
  · intro i H hi q
    exact ⟨xs, ys, xs[i]'(by omega), ys[i]'(by omega), q.1, q.2, List.getElem?_eq_getElem (by omega), List.getElem?_eq_getElem (by omega)⟩
  · intro H q
    exact ⟨xs, ys, q.1, q.2, by omega⟩
  · rintro i H v H' _ q ⟨T, x, z, h1, h2, h3, h4, h5⟩
    exact ⟨T, x, z, h1, h2, h3, h4 xs q.1, h5 ys q.2⟩
theorem di_zip {elts : List Expr} {k0 : Nat} (hg : Gl X "zip") (hm : X.mg "zip" = none) (ha : DA X W [e, e2] ta)
    (hs : starEach [e, e2] X.env = (false, eval e X.env) :: starEach [e2] X.env := by rfl) (hpl : (backTo pos (starEach [e2] X.env)).any (·.1) = false := by rfl) : DI X W (.Tuple elts k0 tpos) (.Call (.Name "zip" p) [e, e2] [] pos) (dIZip ta) := by
  refine pi_imp (pi_zipA hg hm ha hs hpl) fun σ H R ⟨G, S, P, Rp, p, q⟩ => ?_
  refine ⟨G, S, _, Rp, p, fun ds S1 p1 vs H1 G1 s1 R1 d1 => ?_⟩
  match ds, d1, p1 with
  | [.tup a, .tup b], .cons (.tup h1 h2) (.cons (.tup h3 h4) .nil), p1 =>
    exact ⟨_, _, _, _, rfl, .inr ⟨SqT.of (R1.gh _ _ h1), SqT.of (R1.gh _ _ h3), q _ S1 p1 H1 G1 s1 R1 _ _ _ (walk_zipT (by rw [zipD_len, dva_len h2, dva_len h4])) (fun H2 s2 => ⟨SqT.of (s2 _ _ h1), SqT.of (s2 _ _ h3)⟩) fun i H2 x H3 hi y => zip_comes h2 h4 hi y⟩⟩
  | [.lst a, .lst b], .cons (.lst h1 h2) (.cons (.lst h3 h4) .nil), p1 =>
    exact ⟨_, _, _, _, rfl, .inl ⟨SqL.of (R1.gh _ _ h1), SqL.of (R1.gh _ _ h3), q _ S1 p1 H1 G1 s1 R1 _ _ _ (walk_zip (by rw [zipD_len, dva_len h2, dva_len h4])) (fun H2 s2 => ⟨SqL.of (s2 _ _ h1), SqL.of (s2 _ _ h3)⟩) fun i H2 x H3 hi y => zip_comes h2 h4 hi y⟩⟩
/-- enumerate(list) -/
def enumD (ds : List D) : List D := (ds.zipIdx).map fun p => .tup [.int (p.2 : Nat), p.1]
def dIEnum (ta : DTA) : DIT := fun S P => ta S fun ds S1 => match ds with
  | [.lst a] => P (enumD a) S1
  | _ => False
theorem di_enum {elts : List Expr} {k0 : Nat} (hg : Gl X "enumerate") (hm : X.mg "enumerate" = none) (ha : DA X W [e] ta) (hs : starEach [e] X.env = [(false, eval e X.env)] := by rfl) : DI X W (.Tuple elts k0 tpos) (.Call (.Name "enumerate" p) [e] [] pos) (dIEnum ta) := by
  refine pi_imp (pi_enum hg hm ha hs) fun σ H R ⟨G, S, P, Rp, p, q⟩ => ?_
  refine ⟨G, S, _, Rp, p, fun ds S1 p1 vs H1 G1 s1 R1 d1 => ?_⟩
  match ds, d1, p1 with
  | [.lst a], .cons (.lst h1 h2) .nil, p1 =>
    refine ⟨_, _, rfl, SqL.of (R1.gh _ _ h1), q _ S1 p1 H1 G1 s1 R1 _ _ _ (by rw [enumD, List.length_map, List.length_zipIdx, ← dva_len h2]; exact walk_enum) (fun H2 s2 => SqL.of (s2 _ _ h1)) fun i H2 x H3 hi y => ?_⟩
    obtain ⟨T, u, v, ex, hT, eH, eu, ev⟩ := y
    cases eu
    obtain ⟨d, ed, dd⟩ := dva_get h2 ev
    refine ⟨.tup [.int (i : Nat), d], ?_, pair_comes ex hT eH (.int _) dd⟩
    unfold enumD
    rw [List.getElem?_map, List.getElem?_zipIdx, ed]; simp
/-- reversed(list or tuple) -/
def dIRev (t : DT) : DIT := fun S P => t S fun x S1 => match x with
  | .lst a => P a.reverse S1
  | .tup a => P a.reverse S1
  | _ => False
theorem rev_get {α : Type} {l : List α} {i : Nat} (h : i < l.length) : l.reverse[i]? = l[l.length - 1 - i]? := by rw [List.getElem?_reverse h]
theorem di_rev (hg : Gl X "reversed") (hm : X.mg "reversed" = none) (he : DE X W e t) (hs : starEach [e] X.env = (false, eval e X.env) :: starEach [] X.env := by rfl) : DI X W tg (.Call (.Name "reversed" p) [e] [] pos) (dIRev t) := by
  refine pi_imp (pi_revA hg hm he hs) fun σ H R ⟨G, S, P, Rp, p, q⟩ => ?_
  refine ⟨G, S, _, Rp, p, fun x S1 p1 v H1 G1 s1 R1 d1 => ?_⟩
  have com : ∀ {xs : List V} {ds : List D}, DvAll X.K G1 xs ds → ∀ i H2 x H3, i < ds.reverse.length → (H3 = H2 ∧ xs[xs.length - 1 - i]? = some x) → ∃ d, ds.reverse[i]? = some d ∧ Comes kk X.K G1 H2 H3 x d := fun {xs ds} h2 i H2 x H3 hi ⟨e1, e2⟩ => by
    subst e1
    obtain ⟨d, ed, dd⟩ := dva_get h2 e2
    rw [List.length_reverse] at hi
    exact ⟨d, by rw [rev_get hi, ← dva_len h2]; exact ed, comes_same dd⟩
  cases x with
  | lst ds =>
    cases d1 with
    | @lst a xs _ h1 h2 =>
      exact ⟨a, xs, rfl, .inl ⟨SqL.of (R1.gh _ _ h1), q _ S1 p1 H1 G1 s1 R1 _ _ _ (by rw [List.length_reverse, ← dva_len h2]; exact walk_rev) (fun H2 s2 => SqL.of (s2 _ _ h1)) (com h2)⟩⟩
  | tup ds =>
    cases d1 with
    | @tup a xs _ h1 h2 =>
      refine ⟨a, xs, rfl, .inr ⟨SqT.of (R1.gh _ _ h1), q _ S1 p1 H1 G1 s1 R1 _ (fun H => SqT X.K H a xs) (fun i H x H' => H' = H ∧ xs[xs.length - 1 - i]? = some x) ?_ (fun H2 s2 => SqT.of (s2 _ _ h1)) (com h2)⟩⟩
      rw [List.length_reverse, ← dva_len h2]
      exact ⟨fun i H hi z => ⟨hi, xs, xs[xs.length - 1 - i]'(by omega), z, by simp [show xs.length - 1 - i < xs.length by omega]⟩, fun _ _ => Nat.le_refl _, fun _ _ _ _ _ z y => ⟨y.1, y.2 xs z⟩⟩
  | _ => exact False.elim p1
end
/-! ### comprehensions -/
def wipeD (ρ : List (Option Sl)) : List Nat → List (Option Sl)
  | [] => ρ
  | v :: vs => setS (wipeD ρ vs) v none
theorem wipeD_len (ρ : List (Option Sl)) : ∀ vs, (wipeD ρ vs).length = ρ.length
  | [] => rfl
  | v :: vs => by rw [wipeD, setS_len, wipeD_len ρ vs]
theorem getS_wipe {ρ : List (Option Sl)} : ∀ {vs : List Nat} {i : Nat} {s : Sl}, getS (wipeD ρ vs) i = some s → i ∉ vs ∧ getS ρ i = some s
  | [], _, _, h => ⟨by simp, h⟩
  | v :: vs, i, s, h => by
    rcases getS_setS h with ⟨_, h, _⟩ | ⟨e, h⟩
    · cases h
    · obtain ⟨h1, h2⟩ := getS_wipe h
      exact ⟨by simp [e, h1], h2⟩
theorem wipe_get {σ : L2.St} {i : Nat} : ∀ {vs : List Nat}, i ∉ vs → (wipe σ vs)[i]? = σ[i]?
  | [], _ => rfl
  | v :: vs, h => by
    simp only [List.mem_cons, not_or] at h
    unfold wipe
    rw [List.getElem?_set_ne (Ne.symm h.1), wipe_get h.2]
theorem wipe_off {σ σ' : L2.St} : ∀ {vs : List Nat}, Off vs σ σ' → wipe σ' vs = wipe σ vs := fun {vs} h => by
  have aux : ∀ (us : List Nat) (τ : L2.St) (i : Nat), i ∈ us → i < τ.length → (wipe τ us)[i]? = some none := by
    intro us τ i
    induction us with
    | nil => intro hi; cases hi
    | cons u us ih =>
      intro hi hl
      unfold wipe
      by_cases e : u = i
      · subst e; rw [List.getElem?_set_self (by rw [wipe_length]; exact hl)]
      · rw [List.getElem?_set_ne e]
        rcases List.mem_cons.mp hi with z | z
        · exact absurd z.symm e
        · exact ih z hl
  refine List.ext_getElem? fun i => ?_
  by_cases hi : i ∈ vs
  · by_cases hl : i < σ.length
    · rw [aux vs σ i hi hl, aux vs σ' i hi (by rw [h.1]; exact hl)]
    · rw [List.getElem?_eq_none (by rw [wipe_length, h.1]; omega), List.getElem?_eq_none (by rw [wipe_length]; omega)]
  · rw [wipe_get hi, wipe_get hi]; exact h.2 i hi
section
variable {kk : Dek} {W : Wd kk} {K : PySem.W.Frag} {G H : Hp} {σ σ' : L2.St} {S : Ds}
theorem Rep.off (R : Rep W K G H σ' S) {vs : List Nat} (o : Off vs σ σ') : Rep W K G H σ ⟨wipeD S.ρ vs, S.dr⟩ := by
  refine ⟨R.gh, R.bg, R.fr, R.nw, by rw [wipeD_len, ← R.len, o.1], fun i s e => ?_, fun i j d e a hij q1 q2 q3 q4 => ?_, R.dk⟩
  · obtain ⟨h1, h2⟩ := getS_wipe e
    obtain ⟨v, ev, ok⟩ := R.sl i s h2
    exact ⟨v, by rw [← o.2 i h1]; exact ev, ok⟩
  · obtain ⟨h1, h2⟩ := getS_wipe q1
    obtain ⟨h3, h4⟩ := getS_wipe q2
    rw [← o.2 i h1] at q3
    rw [← o.2 j h3] at q4
    exact R.ap i j d e a hij h2 h4 q3 q4
theorem off_wipe (σ : L2.St) (vs : List Nat) : Off vs (wipe σ vs) σ := ⟨by rw [wipe_length], fun i h => (wipe_get h).symm⟩
theorem off_wipe' (σ : L2.St) (vs : List Nat) : Off vs σ (wipe σ vs) := ⟨by rw [wipe_length], fun i h => wipe_get h⟩
/-- the slots of a comprehension's own names as they were ahead of it -/
def back (ρ0 ρ : List (Option Sl)) : List Nat → List (Option Sl)
  | [] => ρ
  | v :: vs => match getS ρ0 v with
    | some (.v d) => setS (back ρ0 ρ vs) v (some (.v d))
    | _ => back ρ0 ρ vs
theorem Rep.putV (R : Rep W K G H σ S) {i : Nat} {v : V} {d : D} (dv : Dv K G v d) (e : σ[i]? = some (some v)) : Rep W K G H σ ⟨setS S.ρ i (some (.v d)), S.dr⟩ := by
  have := R.setV (i := i) dv
  have e2 : σ.set i (some v) = σ := by
    refine List.ext_getElem? fun j => ?_
    by_cases h : j = i
    · subst h; rw [List.getElem?_set_self (List.getElem?_eq_some_iff.mp e).1, e]
    · rw [List.getElem?_set_ne (Ne.symm h)]
  rw [e2] at this
  exact this
theorem Rep.back {G0 H0 : Hp} {S0 : Ds} (R0 : Rep W K G0 H0 σ S0) (g : Same G0 G) (R : Rep W K G H σ S) : ∀ vs : List Nat, Rep W K G H σ ⟨Dl.back S0.ρ S.ρ vs, S.dr⟩
  | [] => R
  | v :: vs => by
    have ih := Rep.back R0 g R vs
    unfold Dl.back
    cases e : getS S0.ρ v with
    | none => exact ih
    | some s =>
      cases s with
      | o d => exact ih
      | v d =>
        obtain ⟨x, ex, dv⟩ := R0.sl v _ e
        exact ih.putV (Dv.up g _ _ dv) ex
/-- another thing that stays -/
def Wd.plus (W : Wd kk) (D : Addr) (o : HO) (h : D ∉ kk.dk) : Wd kk := ⟨W.B, upd W.F D o, W.bd, fun a m => by rw [upd_ne (fun e => h (by rw [← e]; exact m))]; exact W.fd a m⟩
theorem Rep.plus (R : Rep W K G H σ S) {D : Addr} {o : HO} (f : Frsh W G D) (no : NoOwn σ S D) (e : H D = some o) : Rep (W.plus D o f.d) K G H σ S := by
  refine ⟨R.gh, R.bg, fun a u h => ?_, fun a u h => ?_, R.len, fun i s q => ?_, R.ap, R.dk⟩
  · have h : upd W.F D o a = some u := h
    by_cases z : a = D
    · subst z; rw [upd_same] at h; cases h; exact e
    · rw [upd_ne z] at h; exact R.fr a u h
  · rcases R.nw a u h with z | ⟨z, m⟩
    · exact .inl z
    · refine .inr ⟨?_, m⟩
      show upd W.F D o a = none
      rw [upd_ne (fun q => by rw [q, f.g] at h; cases h)]; exact z
  · obtain ⟨v, ev, ok⟩ := R.sl i s q
    refine ⟨v, ev, ?_⟩
    cases s with
    | v d => exact ok
    | o d =>
      obtain ⟨a, rfl, f', o'⟩ := ok
      refine ⟨a, rfl, ⟨f'.g, ?_, f'.d⟩, o'⟩
      show upd W.F D o a = none
      rw [upd_ne (fun z => no i d q (by rw [← z]; exact ev))]; exact f'.f
theorem Rep.less {D : Addr} {o : HO} {h : D ∉ kk.dk} (n : W.F D = none) (nb : W.B D = none) (R : Rep (W.plus D o h) K G H σ S) : Rep W K G H σ S ∧ Frsh W G D ∧ NoOwn σ S D ∧ H D = some o := by
  have fu : ∀ a, upd W.F D o a = none → W.F a = none := fun a z => by
    by_cases q : a = D
    · rw [q]; exact n
    · rw [upd_ne q] at z; exact z
  have gD : G D = none := by
    cases q : G D with
    | none => rfl
    | some u =>
      rcases R.nw D u q with z | ⟨z, _⟩
      · have z : W.B D = some u := z
        rw [nb] at z; cases z
      · have z : upd W.F D o D = none := z
        rw [upd_same] at z; cases z
  refine ⟨⟨R.gh, R.bg, fun a u q => R.fr a u ?_, fun a u q => (R.nw a u q).imp id fun ⟨z, m⟩ => ⟨fu a z, m⟩, R.len, fun i s q => ?_, R.ap, R.dk⟩, ⟨gD, n, h⟩, fun i d q z => ?_, R.fr D o upd_same⟩
  · show upd W.F D o a = some u
    rw [upd_ne (fun z => by rw [z, n] at q; cases q)]; exact q
  · obtain ⟨v, ev, ok⟩ := R.sl i s q
    refine ⟨v, ev, ?_⟩
    cases s with
    | v d => exact ok
    | o d =>
      obtain ⟨a, rfl, f', o'⟩ := ok
      exact ⟨a, rfl, ⟨f'.g, fu a f'.f, f'.d⟩, o'⟩
  · obtain ⟨v, ev, a, ea, f', o'⟩ := R.sl i _ q
    rw [ev] at z
    cases z
    cases ea
    have z : upd W.F D o D = none := f'.f
    rw [upd_same] at z; cases z
end
def lcL (vs : List Nat) (g : DGT) (tt : DTT) (te : DT) (P : D → Ds → Prop) : List D → List D → Ds → Prop
  | [], acc, S => P (.lst acc) S
  | d :: ds, acc, S => g d ⟨wipeD S.ρ vs, S.dr⟩ fun S2 => tt S2 fun b S3 => onT b (te S3 fun y S4 => acc.length < sizeLine ∧ lcL vs g tt te P ds (acc ++ [y]) ⟨wipeD S4.ρ vs, S4.dr⟩) (lcL vs g tt te P ds acc ⟨wipeD S3.ρ vs, S3.dr⟩)
def dLc (ti : DIT) (g : DGT) (tt : DTT) (te : DT) (vs : List Nat) : DT := fun S P => ti S fun ds S1 => lcL vs g tt te (fun d S2 => P d ⟨Dl.back S1.ρ S2.ρ vs, S2.dr⟩) ds [] ⟨wipeD S1.ρ vs, S1.dr⟩
/-- a comprehension whose turns change nothing -/
theorem lcL_pure {vs : List Nat} {g : DGT} {tt : DTT} {te : DT} {P : D → Ds → Prop} {S : Ds} (f : D → Option D) : ∀ (ds acc : List D), (∀ d ∈ ds, ∀ (A : D → Ds → Prop) (B : Ds → Prop), (∀ S' : Ds, (⟨wipeD S'.ρ vs, S'.dr⟩ : Ds) = S → match f d with
    | some y => A y S'
    | none => B S') → g d ⟨wipeD S.ρ vs, S.dr⟩ fun S2 => tt S2 fun b S3 => onT b (te S3 A) (B S3)) → acc.length + ds.length ≤ sizeLine → P (.lst (acc ++ ds.filterMap f)) S → lcL vs g tt te P ds acc S
  | [], acc, _, _, h => by rw [List.filterMap_nil, List.append_nil] at h; exact h
  | d :: ds, acc, st, hz, h => by
    rw [List.length_cons] at hz
    unfold lcL
    refine st d (List.mem_cons_self ..) _ _ fun S' e => ?_
    cases q : f d with
    | some y =>
      rw [List.filterMap_cons_some q] at h
      refine ⟨by omega, ?_⟩
      rw [e]
      refine lcL_pure f ds (acc ++ [y]) (fun d hd => st d (List.mem_cons_of_mem _ hd)) (by rw [List.length_append]; simp only [List.length_cons, List.length_nil]; omega) ?_
      rw [List.append_assoc]; exact h
    | none =>
      rw [List.filterMap_cons_none q] at h
      show lcL vs g tt te P ds acc _
      rw [e]
      exact lcL_pure f ds acc (fun d hd => st d (List.mem_cons_of_mem _ hd)) (by omega) h
/-- .. without a test -/
theorem lcL_map {vs : List Nat} {g : DGT} {te : DT} {P : D → Ds → Prop} {S : Ds} (f : D → D) (ds : List D) (st : ∀ d ∈ ds, ∀ (A : D → Ds → Prop), (∀ S' : Ds, (⟨wipeD S'.ρ vs, S'.dr⟩ : Ds) = S → A (f d) S') → g d ⟨wipeD S.ρ vs, S.dr⟩ fun S2 => te S2 A) (hz : ds.length ≤ sizeLine) (h : P (.lst (ds.map f)) S) :
    lcL vs g (fun S P => P true S) te P ds [] S :=
  lcL_pure (fun d => some (f d)) ds [] (fun d hd A B q => st d hd A fun S' e => q S' e) (by simpa using hz) (by rw [List.filterMap_eq_map']; exact h)
def dYes : DTT := fun S P => P true S
def DTs {kk : Dek} (X : Cx) (W : Wd kk) (ifs : List Expr) (t : DTT) : Prop := PTs X ifs (liftT W X.K t)
section
variable {kk : Dek} {X : Cx} {W : Wd kk}
theorem dts_nil : DTs X W [] dYes := ⟨fun pins s σ H Q I ⟨G, S, P, R, p, q⟩ => (pts_nil (X := X)).run pins s σ H Q I (q true S p H G (Same.refl _) R)⟩
theorem dts_one {c : Expr} {t : DTT} (h : DTe X W c t) : DTs X W [c] t := pts_one h
theorem Rep.wrD {K : PySem.W.Frag} {G H : Hp} {σ : L2.St} {S : Ds} {D : Addr} {u : HO} (R : Rep W K G H σ S) (f : Frsh W G D) (no : NoOwn σ S D) : Rep W K G (upd H D u) σ S := by
  refine ⟨fun b v q => ?_, R.bg, fun b v q => ?_, R.nw, R.len, fun j s q => ?_, R.ap, W.st _ _ _ R.dk fun b m => upd_ne fun q => f.d (by rw [← q]; exact m)⟩
  · rw [upd_ne (ne_of_none q f.g)]; exact R.gh b v q
  · rw [upd_ne (ne_of_none q f.f)]; exact R.fr b v q
  · obtain ⟨v', e1, ok⟩ := R.sl j s q
    refine ⟨v', e1, ?_⟩
    cases s with
    | v _ => exact ok
    | o d2 =>
      obtain ⟨b, rfl, f', o'⟩ := ok
      exact ⟨b, rfl, f', o'.up (Same.refl _) (upd_ne fun z => no j d2 q (by rw [← z]; exact e1))⟩
theorem getS_back {ρ0 ρ : List (Option Sl)} {i : Nat} {d : D} : ∀ {vs : List Nat}, getS (Dl.back ρ0 ρ vs) i = some (.o d) → getS ρ i = some (.o d)
  | [], h => h
  | v :: vs, h => by
    unfold Dl.back at h
    split at h
    · rcases getS_setS h with ⟨_, h, _⟩ | ⟨_, h⟩
      · cases h
      · exact getS_back h
    · exact getS_back h
theorem Off.refl' (is : List Nat) (σ : L2.St) : Off is σ σ := ⟨rfl, fun _ _ => rfl⟩
theorem off_sub {is js : List Nat} {σ σ' : L2.St} (o : Off is σ σ') (h : ∀ i ∈ is, i ∈ js) : Off js σ σ' := ⟨o.1, fun i hi => o.2 i fun q => hi (h i q)⟩
/-- over some world -/
def anyG (kk : Dek) (K : PySem.W.Frag) (is : List Nat) (g : DGT) : TG := fun v σ H Q => ∃ W : Wd kk, liftG W K is g v σ H Q
def anyT (kk : Dek) (K : PySem.W.Frag) (t : DTT) : TT := fun σ H Q => ∃ W : Wd kk, liftT W K t σ H Q
def anyE (kk : Dek) (K : PySem.W.Frag) (t : DT) : TE := fun σ H Q => ∃ W : Wd kk, lift W K t σ H Q
theorem pg_anyG {tg : Expr} {is : List Nat} {g : DGT} (h : ∀ W : Wd kk, DG X W tg is g) : PG X tg (anyG kk X.K is g) := ⟨fun pins s σ H v u Q I r ⟨W, q⟩ => (h W).run pins s σ H v u Q I r q⟩
theorem pt_anyT {ifs : List Expr} {t : DTT} (h : ∀ W : Wd kk, DTs X W ifs t) : PTs X ifs (anyT kk X.K t) := ⟨fun pins s σ H Q I ⟨W, q⟩ => (h W).run pins s σ H Q I q⟩
theorem pe_anyE {e : Expr} {t : DT} (h : ∀ W : Wd kk, DE X W e t) : PE X e (anyE kk X.K t) := ⟨fun pins s σ H Q I ⟨W, q⟩ => (h W).run pins s σ H Q I q⟩
theorem lift_lc {own is : List Nat} {wi : DIT} {g : DGT} {tt : DTT} {te : DT} (hsub : ∀ i ∈ is, i ∈ own) (σ : L2.St) (H : Hp) (Q : VK) (h : liftO W X.K (dLc wi g tt te own) σ H Q) :
    tLc (liftI W X.K wi) (anyG kk X.K is g) (anyT kk X.K tt) (anyE kk X.K te) own σ H Q := by
  obtain ⟨G, S, P, R, p, q⟩ := h
  refine ⟨G, S, _, R, p, fun ds S1 p1 H1 G1 s1 R1 J Gd Y wk gd yl D hD => ?_⟩
  obtain ⟨R1', f1, no1⟩ := R1.fresh (u := .lst []) hD
  have hDk : D ∉ kk.dk := f1.d
  refine lc_it wk (fun i H2 => ∃ G2 S2 acc xs, Same G1 G2 ∧ Rep W X.K G2 H2 σ S2 ∧ Frsh W G2 D ∧ NoOwn σ S2 D ∧ H2 D = some (.lst xs) ∧ DvAll X.K G2 xs acc ∧ lcL own g tt te (fun d S2 => P d ⟨Dl.back S1.ρ S2.ρ own, S2.dr⟩) (ds.drop i) acc S2)
    ⟨G1, _, [], [], Same.refl _, R1'.off (Off.refl' own σ), f1, fun i d q => no1 i d (getS_wipe q).2, upd_same, .nil, by rw [List.drop_zero]; exact p1⟩ (fun i H2 _ ⟨G2, S2, acc, xs, s2, R2, _⟩ => gd H2 (s2.trans R2.gh)) ?_ ?_
  · rintro i x H2 H3 hi ⟨G2, S2, acc, xs, s2, R2, f2, no2, e2, dv2, p2⟩ y
    obtain ⟨d, ed, co⟩ := yl i H2 x H3 hi y
    have nB : W.B D = none := R2.bg.free f2.g
    obtain ⟨G3, s3, R3, d3⟩ := co (W.plus D (.lst xs) hDk) G2 σ S2 s2 (R2.plus f2 no2 e2)
    rw [drop_cons ed] at p2
    refine ⟨W.plus D (.lst xs) hDk, G3, _, d, _, R3.off (off_wipe σ own), d3, p2, fun S4 p4 σ4 H4 G4 s4 R4 o4 => ?_⟩
    have o4' : Off own (wipe σ own) σ4 := off_sub o4 hsub
    have w4 : wipe σ4 own = wipe σ own := by
      rw [wipe_off o4', wipe_off (off_wipe' σ own)]
    have offσ : Off own σ σ4 := ⟨by rw [o4'.1, wipe_length], fun j hj => (o4'.2 j hj).trans (wipe_get hj)⟩
    refine ⟨w4, W.plus D (.lst xs) hDk, G4, S4, _, R4, p4, fun b S5 p5 H5 G5 s5 R5 => ?_⟩
    have sG : Same G2 G5 := s3.trans (s4.trans s5)
    cases b with
    | true =>
      refine iteT ?_
      refine ⟨W.plus D (.lst xs) hDk, G5, S5, _, R5, p5, fun dy S6 ⟨hz, p6⟩ yv H6 G6 s6 R6 d6 => ?_⟩
      obtain ⟨R6', f6, no6, e6⟩ := Rep.less f2.f nB (R6.off offσ)
      refine ⟨xs, e6, by rw [dva_len dv2]; exact hz, G6, _, acc ++ [dy], xs ++ [yv], s2.trans (sG.trans s6), R6'.wrD f6 no6, f6, no6, upd_same, dva_app (DvAll.up (sG.trans s6) _ _ dv2) (.cons d6 .nil), p6⟩
    | false =>
      refine iteF ?_
      obtain ⟨R6', f6, no6, e6⟩ := Rep.less f2.f nB (R5.off offσ)
      exact ⟨G5, _, acc, xs, s2.trans sG, R6', f6, no6, e6, DvAll.up sG _ _ dv2, p5⟩
  · rintro H2 ⟨G2, S2, acc, xs, s2, R2, f2, no2, e2, dv2, p2⟩
    rw [List.drop_length] at p2
    exact q _ _ p2 D H2 G2 (s1.trans s2) (Rep.back R1 s2 R2 own) f2 ⟨xs, e2, dv2⟩ fun i d e => no2 i d (getS_back e)
/-- [elt for target in iter if ..] -/
theorem do_lc {elt tg iter : Expr} {ifs : List Expr} {scope : Scope} {own : List (Str × Nat)} {is : List Nat} {pos : Pos} {wi : DIT} {g : DGT} {tt : DTT} {te : DT} (hc : X.calm = true) (hN : X.N.Nodup) (hi : DI X W tg iter wi) (ok : BlkOk X.N X.env.scope scope own)
    (hg : ∀ (s : Shared) (H : Hp) (C : Addr) (cl : List (Str × Addr)) (fp : List Addr) (W' : Wd kk), DG (X.blk s H scope (compEnvC scope cl C X.env) fp) W' tg is g)
    (ht : ∀ (s : Shared) (H : Hp) (C : Addr) (cl : List (Str × Addr)) (fp : List Addr) (W' : Wd kk), DTs (X.blk s H scope (compEnvC scope cl C X.env) fp) W' ifs tt)
    (he : ∀ (s : Shared) (H : Hp) (C : Addr) (cl : List (Str × Addr)) (fp : List Addr) (W' : Wd kk), DE (X.blk s H scope (compEnvC scope cl C X.env) fp) W' elt te) (hsub : ∀ i ∈ is, i ∈ own.map (·.2) := by decide) (hs : ∀ x, foldedSetIterable iter X.env x = pure x := by intro _; rfl) :
    DO X W (.ListComp elt [⟨tg, iter, ifs, 0⟩] scope pos) (dLc wi g tt te (own.map (·.2))) :=
  pe_imp (pe_lc hc hN hi ok (fun s H C cl fp => pg_anyG (hg s H C cl fp)) (fun s H C cl fp => pt_anyT (ht s H C cl fp)) (fun s H C cl fp => pe_anyE (he s H C cl fp)) hs) fun σ H Q h => lift_lc hsub σ H Q h
end
end Dl
namespace Dl
open PySem PySem.Spec PyProof.Rows L2 Sw
/-! ### data that == and repr take -/
mutual
def toPy : D → PyData
  | .non => .none
  | .bl b => .bool b
  | .int i => .int i
  | .str z => .str z
  | .lst ds => .list (toPys ds)
  | .tup ds => .tuple (toPys ds)
  | .dk _ _ => .none
  | .dt _ _ => .none
  | .ins _ _ _ => .none
  | .at _ => .none
def toPys : List D → List PyData
  | [] => []
  | d :: ds => toPy d :: toPys ds
end
mutual
def pureD : D → Bool
  | .non => true
  | .bl _ => true
  | .int _ => true
  | .str _ => true
  | .lst ds => pureDs ds
  | .tup ds => pureDs ds
  | .dk _ _ => false
  | .dt _ _ => false
  | .ins _ _ _ => false
  | .at _ => false
def pureDs : List D → Bool
  | [] => true
  | d :: ds => pureD d && pureDs ds
end
theorem toPys_map : ∀ ds : List D, toPys ds = ds.map toPy
  | [] => rfl
  | d :: ds => by rw [toPys, toPys_map ds]; rfl
theorem pureDs_all : ∀ ds : List D, pureDs ds = ds.all pureD
  | [] => rfl
  | d :: ds => by rw [pureDs, pureDs_all ds]; rfl
mutual
theorem Dv.dp {K : PySem.W.Frag} {G : Hp} : ∀ (d : D) (v : V), pureD d = true → Dv K G v d → Dp K G v (toPy d)
  | .non, _, _, h => by cases h; exact .non
  | .bl _, _, _, h => by cases h; exact .bl _
  | .int _, _, _, h => by cases h; exact .int _
  | .str _, _, _, h => by cases h; exact .str _
  | .lst ds, _, p, h => by cases h with | lst h1 h2 => exact .lst (SqL.of h1) (DvAll.dps ds _ p h2)
  | .tup ds, _, p, h => by cases h with | tup h1 h2 => exact .tup (SqT.of h1) (DvAll.dps ds _ p h2)
  | .dk _ _, _, p, _ => by cases p
  | .dt _ _, _, p, _ => by cases p
  | .ins _ _ _, _, p, _ => by cases p
  | .at _, _, p, _ => by cases p
theorem DvAll.dps {K : PySem.W.Frag} {G : Hp} : ∀ (ds : List D) (vs : List V), pureDs ds = true → DvAll K G vs ds → DpAll K G vs (toPys ds)
  | [], _, _, h => by cases h; exact .nil
  | d :: ds, _, p, h => by
    obtain ⟨p1, p2⟩ := Bool.and_eq_true_iff.mp (show (pureD d && pureDs ds) = true from p)
    cases h with | cons h1 h2 => exact .cons (Dv.dp d _ p1 h1) (DvAll.dps ds _ p2 h2)
end
structure GoodD (d : D) : Prop where
  p : pureD d = true
  g : Good (toPy d)
section
variable {kk : Dek} {X : Cx} {W : Wd kk}
/-! ### + - * // % -/
def dAdd (x y : D) (P : D → Prop) : Prop := match x, y with
  | .int i, .int j => P (.int (i + j))
  | .str a, .str b => a.length + b.length ≤ sizeLine ∧ P (.str (a ++ b))
  | .tup a, .tup b => a.length + b.length ≤ sizeLine ∧ P (.tup (a ++ b))
  | .lst a, .lst b => a.length + b.length ≤ sizeLine ∧ P (.lst (a ++ b))
  | _, _ => False
theorem len_nil {α β : Type} {l : List α} {m : List β} (h : l.length = m.length) (e : l = []) : m = [] := List.eq_nil_of_length_eq_zero (by rw [← h, e]; rfl)
theorem do_op_add : DOp X W (binaryOp .Add) dAdd := by
  refine ⟨_, ((op_add (X := X)).or op_add_str).or ((op_catA (X := X)).or op_cat), fun G H σ S v w x y P Q R hv hw h q => ?_⟩
  cases x with
  | int i =>
    cases y with
    | int j => cases hv; cases hw; exact .inl (.inl ⟨i, j, rfl, rfl, q _ h _ H G (Same.refl _) R (.int _)⟩)
    | _ => exact h.elim
  | str a =>
    cases y with
    | str b => cases hv; cases hw; exact .inl (.inr ⟨a, b, rfl, rfl, h.1, q _ h.2 _ H G (Same.refl _) R (.str _)⟩)
    | _ => exact h.elim
  | tup a =>
    cases y with
    | tup b =>
      cases hv with
      | @tup pa xs _ h1 h2 =>
        cases hw with
        | @tup pb ys _ h3 h4 =>
          refine .inr (.inl ⟨pa, pb, xs, ys, rfl, rfl, SqT.of (R.gh _ _ h1), SqT.of (R.gh _ _ h3), by rw [dva_len h2, dva_len h4]; exact h.1, fun e => ?_, fun _ e => ?_, fun _ _ p hp => ?_⟩)
          · have ea := len_nil (dva_len h2) e
            subst ea
            exact q _ h.2 _ H G (Same.refl _) R (.tup h3 h4)
          · have eb := len_nil (dva_len h4) e
            subst eb
            have hp : P (.tup (a ++ [])) := h.2
            rw [List.append_nil] at hp
            exact q _ hp _ H G (Same.refl _) R (.tup h1 h2)
          · have g := same_upd (o := .tup (xs ++ ys)) (R.gh.free hp)
            exact q _ h.2 _ _ _ g (R.new hp) (.tup upd_same (DvAll.up g _ _ (dva_app h2 h4)))
    | _ => exact h.elim
  | lst a =>
    cases y with
    | lst b =>
      cases hv with
      | @lst pa xs _ h1 h2 =>
        cases hw with
        | @lst pb ys _ h3 h4 =>
          refine .inr (.inr ⟨pa, pb, xs, ys, rfl, rfl, R.gh _ _ h1, R.gh _ _ h3, by rw [dva_len h2, dva_len h4]; exact h.1, fun p hp => ?_⟩)
          have g := same_upd (o := .lst (xs ++ ys)) (R.gh.free hp)
          exact q _ h.2 _ _ _ g (R.new hp) (.lst upd_same (DvAll.up g _ _ (dva_app h2 h4)))
    | _ => exact h.elim
  | _ => exact h.elim
/-- two ints -/
def dII (C : Int → Int → Prop) (g : Int → Int → D) (x y : D) (P : D → Prop) : Prop := match x, y with
  | .int i, .int j => C i j ∧ P (g i j)
  | _, _ => False
theorem do_ii {f : Value → Value → Sem Value} {C : Int → Int → Prop} {g : Int → Int → Int} (h : OpR X f (rI C fun i j => .int (g i j))) : DOp X W f (dII C fun i j => .int (g i j)) := by
  refine ⟨_, h, fun G H σ S v w x y P Q R hv hw h q => ?_⟩
  cases x with
  | int i =>
    cases y with
    | int j => cases hv; cases hw; exact ⟨i, j, rfl, rfl, h.1, q _ h.2 _ H G (Same.refl _) R (.int _)⟩
    | _ => exact h.elim
  | _ => exact h.elim
theorem do_ii0 {f : Value → Value → Sem Value} {g : Int → Int → Int} (h : OpR X f (rI0 fun i j => .int (g i j))) : DOp X W f (dII (fun _ _ => True) fun i j => .int (g i j)) := by
  refine ⟨_, h, fun G H σ S v w x y P Q R hv hw h q => ?_⟩
  cases x with
  | int i =>
    cases y with
    | int j => cases hv; cases hw; exact ⟨i, j, rfl, rfl, q _ h.2 _ H G (Same.refl _) R (.int _)⟩
    | _ => exact h.elim
  | _ => exact h.elim
theorem do_op_sub : DOp X W (binaryOp .Sub) (dII (fun _ _ => True) fun i j => .int (i - j)) := do_ii0 op_sub
theorem do_op_mod : DOp X W (binaryOp .Mod) (dII (fun _ j => 0 < j) fun i j => .int (i % j)) := do_ii op_mod
theorem do_op_fdiv : DOp X W (binaryOp .FloorDiv) (dII CDiv fun i j => .int (i / j)) := do_ii op_fdiv
/-- a list times a number; ints -/
def dMul (x y : D) (P : D → Prop) : Prop := match x, y with
  | .int i, .int j => CMul i j ∧ P (.int (i * j))
  | .lst a, .int j => (0 ≤ j ∧ j ≤ 1000 ∧ a.length ≤ 1000) ∧ P (.lst (List.replicate j.toNat a).flatten)
  | _, _ => False
theorem dva_rep {K : PySem.W.Frag} {G : Hp} {xs : List V} {ds : List D} (h : DvAll K G xs ds) : ∀ n : Nat, DvAll K G (List.replicate n xs).flatten (List.replicate n ds).flatten
  | 0 => .nil
  | n + 1 => by
    rw [List.replicate_succ, List.replicate_succ, List.flatten_cons, List.flatten_cons]
    exact dva_app h (dva_rep h n)
theorem do_op_mul : DOp X W (binaryOp .Mult) dMul := by
  refine ⟨_, (op_mul (X := X)).or op_rep, fun G H σ S v w x y P Q R hv hw h q => ?_⟩
  cases x with
  | int i =>
    cases y with
    | int j => cases hv; cases hw; exact .inl ⟨i, j, rfl, rfl, h.1, q _ h.2 _ H G (Same.refl _) R (.int _)⟩
    | _ => exact h.elim
  | lst a =>
    cases y with
    | int j =>
      cases hw
      cases hv with
      | @lst pa xs _ h1 h2 =>
        obtain ⟨⟨b1, b2, b3⟩, p⟩ := h
        have l := dva_len h2
        refine .inr ⟨pa, j, xs, rfl, rfl, R.gh _ _ h1, by omega, by omega, ?_, fun p' hp => ?_⟩
        · have : xs.length * j.toNat ≤ 1000 * 1000 := Nat.mul_le_mul (by omega) (by omega)
          have := line_big
          omega
        · have g := same_upd (o := .lst (List.replicate j.toNat xs).flatten) (R.gh.free hp)
          exact q _ p _ _ _ g (R.new hp) (.lst upd_same (DvAll.up g _ _ (dva_rep h2 _)))
    | _ => exact h.elim
  | _ => exact h.elim
def dNeg (t : DT) : DT := fun S P => t S fun x S1 => match x with
  | .int i => P (.int (-i)) S1
  | _ => False
theorem de_neg {a : Expr} {ta : DT} {pos : Pos} (ha : DE X W a ta) : DE X W (.UnaryOp .USub a pos) (dNeg ta) := by
  refine pe_imp (pe_un un_neg ha) fun σ H Q ⟨G, S, P, R, p, q⟩ => ⟨G, S, _, R, p, fun x S1 p1 v H1 G1 s1 R1 d1 => ?_⟩
  cases x with
  | int i => cases d1; exact ⟨i, rfl, q _ S1 p1 _ H1 G1 s1 R1 (.int _)⟩
  | _ => exact False.elim p1
/-! ### comparisons -/
def strLt (a b : Str) : Bool := decide (a.cps.toList < b.cps.toList)
def dCmp (fi : Int → Int → Bool) (fs : Str → Str → Bool) (x y : D) (P : D → Prop) : Prop := match x, y with
  | .int i, .int j => P (.bl (fi i j))
  | .str a, .str b => P (.bl (fs a b))
  | _, _ => False
theorem do_cmp {f : Value → Value → Sem Value} {fi : Int → Int → Bool} {fs : Str → Str → Bool} (h1 : OpR X f (rI0 fun i j => .bl (fi i j))) (h2 : OpR X f (fun x y H Q => ∃ i j, x = .str i ∧ y = .str j ∧ Q (.bl (fs i j)) H)) : DOpB X W f (dCmp fi fs) := by
  refine ⟨_, h1.or h2, fun G H σ S v w x y P Q R hv hw h q => ?_⟩
  cases x with
  | int i =>
    cases y with
    | int j => cases hv; cases hw; exact .inl ⟨i, j, rfl, rfl, q _ h⟩
    | _ => exact h.elim
  | str i =>
    cases y with
    | str j => cases hv; cases hw; exact .inr ⟨i, j, rfl, rfl, q _ h⟩
    | _ => exact h.elim
  | _ => exact h.elim
theorem do_lt : DOpB X W (compareOp .Lt) (dCmp (fun i j => decide (i < j)) strLt) := do_cmp op_lt op_lt_str
theorem do_le : DOpB X W (compareOp .LtE) (dCmp (fun i j => decide (i ≤ j)) fun a b => !strLt b a) := do_cmp op_le op_le_str
theorem do_gt : DOpB X W (compareOp .Gt) (dCmp (fun i j => decide (j < i)) fun a b => strLt b a) := do_cmp op_gt op_gt_str
theorem do_ge : DOpB X W (compareOp .GtE) (dCmp (fun i j => decide (j ≤ i)) fun a b => !strLt a b) := do_cmp op_ge op_ge_str
/-- ==: ints, texts, bools, None; anything else that is good data -/
def eqD (x y : D) : Bool := PyData.eqv (toPy x) (toPy y)
def dEqF (f : Bool → Bool) (x y : D) (P : D → Prop) : Prop := match x, y with
  | .int i, .int j => P (.bl (f (decide (i = j))))
  | .str i, .str j => P (.bl (f (decide (i = j))))
  | .bl i, .bl j => P (.bl (f (decide (i = j))))
  | .non, .non => P (.bl (f true))
  | .int _, .str _ => P (.bl (f false))
  | .str _, .int _ => P (.bl (f false))
  | .non, .int _ => P (.bl (f false))
  | .int _, .non => P (.bl (f false))
  | .non, .str _ => P (.bl (f false))
  | .str _, .non => P (.bl (f false))
  | x, y => GoodD x ∧ GoodD y ∧ P (.bl (f (eqD x y)))
abbrev dEq := dEqF id
abbrev dNe := dEqF (!·)
theorem dvI {K : PySem.W.Frag} {G : Hp} {v : V} {i : Int} (h : Dv K G v (.int i)) : v = .int i := by cases h; rfl
theorem dvS {K : PySem.W.Frag} {G : Hp} {v : V} {i : Str} (h : Dv K G v (.str i)) : v = .str i := by cases h; rfl
theorem dvB {K : PySem.W.Frag} {G : Hp} {v : V} {i : Bool} (h : Dv K G v (.bl i)) : v = .bl i := by cases h; rfl
theorem dvN {K : PySem.W.Frag} {G : Hp} {v : V} (h : Dv K G v .non) : v = .non := by cases h; rfl
theorem eq_core {f : Bool → Bool} {K : PySem.W.Frag} {G H : Hp} {v w : V} {x y : D} {P : D → Prop} {Q : VK} (hGH : Same G H) (hv : Dv K G v x) (hw : Dv K G w y) (h : dEqF f x y P) (q : ∀ b, P (.bl b) → Q (.bl b) H) :
    (scal v w = true ∧ Q (.bl (f (decide (v = w)))) H) ∨ ∃ d e, Dp K H v d ∧ Dp K H w e ∧ Good d ∧ Good e ∧ Q (.bl (f (PyData.eqv d e))) H := by
  unfold dEqF at h
  split at h
  · rw [dvI hv, dvI hw, dec_int]
    exact .inl ⟨rfl, by rw [Bool.beq_eq_decide_eq]; exact q _ h⟩
  · rw [dvS hv, dvS hw, dec_str]
    exact .inl ⟨rfl, by rw [Bool.beq_eq_decide_eq]; exact q _ h⟩
  · rw [dvB hv, dvB hw, dec_bl]
    exact .inl ⟨rfl, by rw [Bool.beq_eq_decide_eq]; exact q _ h⟩
  · rw [dvN hv, dvN hw]
    exact .inl ⟨rfl, q _ h⟩
  · rw [dvI hv, dvS hw]
    exact .inl ⟨rfl, q _ h⟩
  · rw [dvS hv, dvI hw]
    exact .inl ⟨rfl, q _ h⟩
  · rw [dvN hv, dvI hw]
    exact .inl ⟨rfl, q _ h⟩
  · rw [dvI hv, dvN hw]
    exact .inl ⟨rfl, q _ h⟩
  · rw [dvN hv, dvS hw]
    exact .inl ⟨rfl, q _ h⟩
  · rw [dvS hv, dvN hw]
    exact .inl ⟨rfl, q _ h⟩
  · obtain ⟨g1, g2, h⟩ := h
    exact .inr ⟨_, _, dp_same hGH _ _ (Dv.dp _ _ g1.p hv), dp_same hGH _ _ (Dv.dp _ _ g2.p hw), g1.g, g2.g, q _ h⟩
theorem do_eq (hu : X.A.units + 64 < cLine) : DOpB X W (compareOp .Eq) dEq :=
  ⟨_, (op_eq (X := X)).or (op_eqG hu), fun G H σ S v w x y P Q R hv hw h q => eq_core (f := id) R.gh hv hw h q⟩
theorem do_ne (hu : X.A.units + 64 < cLine) : DOpB X W (compareOp .NotEq) dNe :=
  ⟨_, (op_ne (X := X)).or (op_neG hu), fun G H σ S v w x y P Q R hv hw h q => eq_core (f := (!·)) R.gh hv hw h q⟩
/-- is None -/
def isNon : D → Bool
  | .non => true
  | _ => false
def dIs (f : Bool → Bool) (x y : D) (P : D → Prop) : Prop := match x, y with
  | .at _, _ => False
  | x, .non => P (.bl (f (isNon x)))
  | _, _ => False
theorem is_core {f : Bool → Bool} {K : PySem.W.Frag} {G H : Hp} {v w : V} {x y : D} {P : D → Prop} {Q : VK} (hv : Dv K G v x) (hw : Dv K G w y) (h : dIs f x y P) (q : ∀ b, P (.bl b) → Q (.bl b) H) : w = .non ∧ Q (.bl (f (decide (v = .non)))) H := by
  cases y with
  | non =>
    cases hw
    refine ⟨rfl, ?_⟩
    cases x with
    | «at» _ => exact h.elim
    | _ => cases hv <;> exact q _ h
  | _ => cases x <;> exact h.elim
theorem do_is : DOpB X W (compareOp .Is) (dIs id) := ⟨_, op_isN, fun G H σ S v w x y P Q R hv hw h q => is_core (f := id) hv hw h q⟩
theorem do_isnot : DOpB X W (compareOp .IsNot) (dIs (!·)) := ⟨_, op_notN, fun G H σ S v w x y P Q R hv hw h q => is_core (f := (!·)) hv hw h q⟩
/-! ### len, isinstance, repr, all, any -/
def dLen (ds : List D) (P : D → Prop) : Prop := match ds with
  | [.str z] => z.length ≤ sizeLine ∧ P (.int (z.length : Nat))
  | [.lst a] => P (.int (a.length : Nat))
  | [.tup a] => P (.int (a.length : Nat))
  | _ => False
theorem dc_len : DCal X W (.builtin "len") dLen := by
  refine ⟨_, call_len, fun G H σ S vs ds P Q R hv h q => ?_⟩
  match ds, hv, h with
  | [.str z], .cons (.str _) .nil, h => exact ⟨_, _, rfl, ⟨h.1, rfl⟩, q _ h.2 _ H G (Same.refl _) R (.int _)⟩
  | [.lst a], .cons (.lst h1 h2) .nil, h => exact ⟨_, _, rfl, .inl ⟨_, SqL.of (R.gh _ _ h1), rfl⟩, by rw [dva_len h2]; exact q _ h _ H G (Same.refl _) R (.int _)⟩
  | [.tup a], .cons (.tup h1 h2) .nil, h => exact ⟨_, _, rfl, .inr ⟨_, SqT.of (R.gh _ _ h1), rfl⟩, by rw [dva_len h2]; exact q _ h _ H G (Same.refl _) R (.int _)⟩
def tyD : D → Option String
  | .non => some "NoneType"
  | .bl _ => some "bool"
  | .int _ => some "int"
  | .str _ => some "str"
  | .lst _ => some "list"
  | .tup _ => some "tuple"
  | .dk _ _ => some "dict"
  | .dt _ _ => some "dict"
  | .ins _ _ _ => none
  | .at _ => none
theorem tyX_of {K : PySem.W.Frag} {G H : Hp} {v : V} {d : D} {n : String} (e : tyD d = some n) (g : Same G H) (h : Dv K G v d) : TyX K H v (.type n) := by
  cases d with
  | non => cases e; cases h; exact .base .non
  | bl _ => cases e; cases h; exact .base (.bl _)
  | int _ => cases e; cases h; exact .base (.int _)
  | str _ => cases e; cases h; exact .base (.str _)
  | lst _ => cases e; cases h with | lst h1 _ => exact .base (.lst (g _ _ h1))
  | tup _ =>
    cases e
    cases h with
    | tup h1 _ =>
      exact .base (.tup (g _ _ h1))
  | dk _ _ => cases e; cases h with | dk h1 _ => exact .base (.dK (g _ _ h1))
  | dt _ _ => cases e; cases h with | dt h1 _ => exact .base (.dT (g _ _ h1))
  | ins _ _ _ => cases e
  | «at» _ => cases e
def isIntD : D → Option Bool
  | .int _ => some true
  | .bl _ => some true
  | .ins _ _ _ => none
  | .at _ => none
  | _ => some false
def isBoolD : D → Option Bool
  | .bl _ => some true
  | .ins _ _ _ => none
  | .at _ => none
  | _ => some false
def isStrD : D → Option Bool
  | .str _ => some true
  | .ins _ _ _ => none
  | .at _ => none
  | _ => some false
def isTupD : D → Option Bool
  | .tup _ => some true
  | .ins _ _ _ => none
  | .at _ => none
  | _ => some false
def isLstD : D → Option Bool
  | .lst _ => some true
  | .ins _ _ _ => none
  | .at _ => none
  | _ => some false
def dIsi (f : D → Option Bool) (T : String) (ds : List D) (P : D → Prop) : Prop := match ds with
  | [d, .at (.ty T')] => T' = T ∧ match f d with
    | some b => P (.bl b)
    | none => False
  | _ => False
theorem dc_isi {f : D → Option Bool} {T : String} (hf : ∀ d b, f d = some b → ∃ n, tyD d = some n ∧ kitB n T = some b) : DCal X W (.builtin "isinstance") (dIsi f T) := by
  refine ⟨_, call_isi, fun G H σ S vs ds P Q R hv h q => ?_⟩
  match ds, hv, h with
  | [d, .at (.ty T')], .cons h1 (.cons (.at _) .nil), ⟨e, hh⟩ =>
    subst e
    cases e2 : f d with
    | none => rw [e2] at hh; exact hh.elim
    | some b =>
      rw [e2] at hh
      have h := hh
      obtain ⟨n, en, ek⟩ := hf d b e2
      exact ⟨_, .ty T', _, _, b, rfl, .ty _, tyX_of en R.gh h1, kit_ty ek, q _ h _ H G (Same.refl _) R (.bl _)⟩
theorem kit_all : ∀ s ∈ ["NoneType", "bool", "int", "str", "list", "tuple", "dict"], kitB s "int" = some (s == "int" || s == "bool") ∧ kitB s "bool" = some (s == "bool") ∧ kitB s "str" = some (s == "str") ∧ kitB s "tuple" = some (s == "tuple") ∧ kitB s "list" = some (s == "list") := by decide +kernel
theorem dc_isInt : DCal X W (.builtin "isinstance") (dIsi isIntD "int") := dc_isi fun d b e => by cases d <;> cases e <;> exact ⟨_, rfl, (kit_all _ (by simp)).1⟩
theorem dc_isBool : DCal X W (.builtin "isinstance") (dIsi isBoolD "bool") := dc_isi fun d b e => by cases d <;> cases e <;> exact ⟨_, rfl, (kit_all _ (by simp)).2.1⟩
theorem dc_isStr : DCal X W (.builtin "isinstance") (dIsi isStrD "str") := dc_isi fun d b e => by cases d <;> cases e <;> exact ⟨_, rfl, (kit_all _ (by simp)).2.2.1⟩
theorem dc_isTup : DCal X W (.builtin "isinstance") (dIsi isTupD "tuple") := dc_isi fun d b e => by cases d <;> cases e <;> exact ⟨_, rfl, (kit_all _ (by simp)).2.2.2.1⟩
theorem dc_isLst : DCal X W (.builtin "isinstance") (dIsi isLstD "list") := dc_isi fun d b e => by cases d <;> cases e <;> exact ⟨_, rfl, (kit_all _ (by simp)).2.2.2.2⟩
def isiP (r : Option Bool) (k : Bool → Prop) : Prop := match r with
  | some b => k b
  | none => False
def dIsiE (f : D → Option Bool) (te : DT) : DT := fun S P => te S fun x S1 => isiP (f x) fun b => P (.bl b) S1
theorem de_isi {f : D → Option Bool} {T : String} {x : Str} {p pos : Pos} {e c : Expr} {te : DT} (hc : DCal X W (.builtin "isinstance") (dIsi f T)) (hg : Gl X x) (hm : X.mg x = none) (hv : bootBuiltins x = some (.builtin "isinstance")) (he : DE X W e te) (ht : DE X W c (dC (.at (.ty T))))
    (hn : x ≠ "__name__" := by decide) (hdb : (x == ("__debug__" : Str)) = false := by decide) (hs : starEach [e, c] X.env = (false, eval e X.env) :: starEach [c] X.env := by rfl) (hs2 : starEach [c] X.env = (false, eval c X.env) :: starEach [] X.env := by rfl)
    (hpl : (backTo pos (starEach [c] X.env)).any (·.1) = false := by rfl) : DE X W (.Call (.Name x p) [e, c] [] pos) (dIsiE f te) := by
  refine pe_imp (de_callB hc hg hm hv (da_cons he (da_cons ht da_nil hs2) hs) hn hdb hs hpl) fun σ H Q ⟨G, S, P, R, p, q⟩ => ?_
  refine ⟨G, S, P, R, ?_, q⟩
  have mono : dCB (dIsi f T) (dCons te (dCons (dC (.at (.ty T))) dNil)) S P = (te S fun x S1 => (T = T ∧ match f x with
    | some b => P (.bl b) S1
    | none => False)) := rfl
  rw [mono]
  have e2 : (fun x (S1 : Ds) => (T = T ∧ match f x with
    | some b => P (.bl b) S1
    | none => False)) = fun x S1 => isiP (f x) fun b => P (.bl b) S1 := by
    funext x S1
    unfold isiP
    simp
  rw [e2]
  exact p
def dRepr (ds : List D) (P : D → Prop) : Prop := match ds with
  | [d] => GoodD d ∧ P (.str (toPy d).shown)
  | _ => False
theorem dc_repr (hG : X.A.guards = some []) (hu : X.A.units + 64 < cLine) : DCal X W (.builtin "repr") dRepr := by
  refine ⟨_, call_rp hG hu, fun G H σ S vs ds P Q R hv h q => ?_⟩
  match ds, hv, h with
  | [d], .cons h1 .nil, ⟨g, h⟩ => exact ⟨_, _, rfl, dp_same R.gh _ _ (Dv.dp _ _ g.p h1), g.g, q _ h _ H G (Same.refl _) R (.str _)⟩
/-- a list of bools -/
def boolsOf : List D → Option (List Bool)
  | [] => some []
  | .bl b :: ds => match boolsOf ds with
    | some bs => some (b :: bs)
    | none => none
  | _ => none
theorem bools_vals {K : PySem.W.Frag} {G : Hp} : ∀ {ds : List D} {vs : List V} {bs : List Bool}, boolsOf ds = some bs → DvAll K G vs ds → vs = bs.map V.bl
  | [], _, _, e, .nil => by cases e; rfl
  | .bl b :: ds, _, bs, e, .cons h t => by
    cases h
    unfold boolsOf at e
    cases e2 : boolsOf ds with
    | none => rw [e2] at e; cases e
    | some l => rw [e2] at e; cases e; rw [bools_vals e2 t]; rfl
theorem boolsOf_map : ∀ l : List Bool, boolsOf (l.map D.bl) = some l
  | [] => rfl
  | b :: l => by rw [List.map_cons, boolsOf, boolsOf_map l]
def dBools (f : List Bool → Bool) (ds : List D) (P : D → Prop) : Prop := match ds with
  | [.lst a] => match boolsOf a with
    | some bs => P (.bl (f bs))
    | none => False
  | _ => False
theorem dc_all (hc : X.calm = true) : DCal X W (.builtin "all") (dBools fun l => l.all id) := by
  refine ⟨_, cr_all hc, fun G H σ S vs ds P Q R hv h q => ?_⟩
  match ds, hv, h with
  | [.lst a], .cons (.lst h1 h2) .nil, h =>
    unfold dBools at h
    simp only at h
    split at h
    · rename_i bs e
      have := bools_vals e h2
      subst this
      exact ⟨_, bs, rfl, SqL.of (R.gh _ _ h1), q _ h _ H G (Same.refl _) R (.bl _)⟩
    · exact h.elim
theorem dc_any (hc : X.calm = true) : DCal X W (.builtin "any") (dBools fun l => l.any id) := by
  refine ⟨_, cr_any hc, fun G H σ S vs ds P Q R hv h q => ?_⟩
  match ds, hv, h with
  | [.lst a], .cons (.lst h1 h2) .nil, h =>
    unfold dBools at h
    simp only at h
    split at h
    · rename_i bs e
      have := bools_vals e h2
      subst this
      exact ⟨_, bs, rfl, SqL.of (R.gh _ _ h1), q _ h _ H G (Same.refl _) R (.bl _)⟩
    · exact h.elim
/-- tuple(x), list(x) -/
def dTuple (ds : List D) (P : D → Prop) : Prop := match ds with
  | [.lst a] => P (.tup a)
  | [.tup a] => P (.tup a)
  | _ => False
theorem dc_tuple : DCal X W (.type "tuple") dTuple := by
  refine ⟨_, call_tuple_of, fun G H σ S vs ds P Q R hv h q => ?_⟩
  match ds, hv, h with
  | [.lst a], .cons (@Dv.lst _ _ pa xs _ h1 h2) .nil, h =>
    refine ⟨_, _, rfl, .inl ⟨SqL.of (R.gh _ _ h1), fun p hp => ?_⟩⟩
    have g := same_upd (o := .tup xs) (R.gh.free hp)
    exact q _ h _ _ _ g (R.new hp) (.tup upd_same (DvAll.up g _ _ h2))
  | [.tup a], .cons (@Dv.tup _ _ pa xs _ h1 h2) .nil, h => exact ⟨_, _, rfl, .inr ⟨SqT.of (R.gh _ _ h1), q _ h _ H G (Same.refl _) R (.tup h1 h2)⟩⟩
def dList (ds : List D) (P : D → Prop) : Prop := match ds with
  | [.lst a] => P (.lst a)
  | [.tup a] => P (.lst a)
  | _ => False
theorem dc_list : DCalO X W (.type "list") dList := by
  refine ⟨_, call_list_of, fun G H σ S vs ds P Q R hv h q => ?_⟩
  match ds, hv, h with
  | [.lst a], .cons (@Dv.lst _ _ pa xs _ h1 h2) .nil, h =>
    refine ⟨_, _, rfl, .inl (SqL.of (R.gh _ _ h1)), fun p hp => ?_⟩
    obtain ⟨R2, f, no⟩ := R.fresh (u := .lst xs) hp
    exact q _ h p _ G (Same.refl _) R2 f ⟨xs, upd_same, h2⟩ no
  | [.tup a], .cons (@Dv.tup _ _ pa xs _ h1 h2) .nil, h =>
    refine ⟨_, _, rfl, .inr (SqT.of (R.gh _ _ h1)), fun p hp => ?_⟩
    obtain ⟨R2, f, no⟩ := R.fresh (u := .lst xs) hp
    exact q _ h p _ G (Same.refl _) R2 f ⟨xs, upd_same, h2⟩ no
def dIntC (ds : List D) (P : D → Prop) : Prop := match ds with
  | [.int i] => P (.int i)
  | [.bl b] => P (.int (if b = true then 1 else 0))
  | _ => False
theorem dc_int : DCal X W (.type "int") dIntC := by
  refine ⟨_, call_int1, fun G H σ S vs ds P Q R hv h q => ?_⟩
  match ds, hv, h with
  | [.int i], .cons (.int _) .nil, h => exact .inl ⟨i, rfl, q _ h _ H G (Same.refl _) R (.int _)⟩
  | [.bl b], .cons (.bl _) .nil, h => exact .inr ⟨b, rfl, q _ h _ H G (Same.refl _) R (.int _)⟩
/-! ### x[i], x[i:j], x[::-1] -/
def ixD (x y : D) : Option D := match x, y with
  | .lst a, .int i => atI a i
  | .tup a, .int i => atI a i
  | .str z, .int i => (atI z.cps.toList i).map fun c => .str (chr c)
  | _, _ => none
def dIx (ta tb : DT) : DT := fun S P => ta S fun x S1 => tb S1 fun y S2 => (∀ z, x = .str z → z.length ≤ sizeLine) ∧ match ixD x y with
  | some d => P d S2
  | none => False
theorem atI_dv {K : PySem.W.Frag} {G : Hp} {xs : List V} {ds : List D} {i : Int} {d : D} (h : DvAll K G xs ds) (e : atI ds i = some d) : ∃ v, atI xs i = some v ∧ Dv K G v d := by
  unfold atI at e ⊢
  rw [dva_len h]
  cases q : ixN ds.length i with
  | none => rw [q] at e; cases e
  | some j =>
    rw [q] at e
    exact dva_get' h e
theorem de_ix {a b : Expr} {ta tb : DT} {pos : Pos} (ha : DE X W a ta) (hb : DE X W b tb) (hs : PlainIx b) : DE X W (.Subscript a b pos) (dIx ta tb) := by
  refine pe_imp (pe_ix ix_seq ha hb hs) fun σ H Q ⟨G, S, P, R, p, q⟩ => ?_
  refine ⟨G, S, _, R, p, fun x S1 p1 v H1 G1 s1 R1 d1 => ⟨G1, S1, _, R1, p1, fun y S2 ⟨hz, p2⟩ w H2 G2 s2 R2 d2 => ?_⟩⟩
  cases e : ixD x y with
  | none => rw [e] at p2; exact p2.elim
  | some d =>
    rw [e] at p2
    have d1 := Dv.up s2 _ _ d1
    cases x with
    | lst ds =>
      cases y with
      | int i =>
        cases d2
        cases d1 with
        | lst h1 h2 =>
          obtain ⟨u, eu, du⟩ := atI_dv h2 e
          exact .inl ⟨_, _, i, u, rfl, rfl, SqL.of (R2.gh _ _ h1), eu, q _ S2 p2 u H2 G2 (s1.trans s2) R2 du⟩
      | _ => cases e
    | tup ds =>
      cases y with
      | int i =>
        cases d2
        cases d1 with
        | tup h1 h2 =>
          obtain ⟨u, eu, du⟩ := atI_dv h2 e
          exact .inr (.inl ⟨_, _, i, u, rfl, rfl, SqT.of (R2.gh _ _ h1), eu, q _ S2 p2 u H2 G2 (s1.trans s2) R2 du⟩)
      | _ => cases e
    | str z =>
      cases y with
      | int i =>
        cases d2
        cases d1
        obtain ⟨c, ec, rfl⟩ := Option.map_eq_some_iff.mp (show (atI z.cps.toList i).map (fun c => D.str (chr c)) = some d from e)
        exact .inr (.inr ⟨z, i, c, rfl, rfl, hz z rfl, ec, q _ S2 p2 _ H2 G2 (s1.trans s2) R2 (.str _)⟩)
      | _ => cases e
    | _ => cases e
abbrev DTO := Ds → (Option Int → Ds → Prop) → Prop
def liftP {kk : Dek} (W : Wd kk) (K : PySem.W.Frag) (t : DTO) : TO := fun σ H Q => ∃ G S P, Rep W K G H σ S ∧ t S P ∧ ∀ o S', P o S' → ∀ H' G', Same G G' → Rep W K G' H' σ S' → Q o H'
def DP {kk : Dek} (X : Cx) (W : Wd kk) (e : Option Expr) (t : DTO) : Prop := PO X e (liftP W X.K t)
def dNoP : DTO := fun S P => P none S
def dP (t : DT) : DTO := fun S P => t S fun x S1 => match x with
  | .int i => P (some i) S1
  | _ => False
theorem dp_none : DP X W none dNoP := ⟨fun pins s σ H Q I ⟨G, S, P, R, p, q⟩ => po_none.run pins s σ H Q I (q none S p H G (Same.refl _) R)⟩
theorem dp_some {e : Expr} {t : DT} (h : DE X W e t) : DP X W (some e) (dP t) := by
  refine ⟨fun pins s σ H Q I ⟨G, S, P, R, p, q⟩ => (po_some h).run pins s σ H Q I ⟨G, S, _, R, p, fun x S1 p1 v H1 G1 s1 R1 d1 => ?_⟩⟩
  cases x with
  | int i => cases d1; exact ⟨i, rfl, q _ S1 p1 H1 G1 s1 R1⟩
  | _ => exact False.elim p1
def cutD {α : Type} (xs : List α) (lo hi : Option Int) : List α := (xs.drop (HT.sIx xs.length 0 lo)).take (HT.sIx xs.length xs.length hi - HT.sIx xs.length 0 lo)
theorem cutD_dv {K : PySem.W.Frag} {G : Hp} {xs : List V} {ds : List D} {lo hi : Option Int} (h : DvAll K G xs ds) : DvAll K G (cutV xs lo hi) (cutD ds lo hi) := by
  unfold cutV cutD
  rw [dva_len h]
  exact dva_take _ (dva_drop _ h)
def slD (x : D) (lo hi : Option Int) (P : D → Prop) : Prop := match x with
  | .lst a => P (.lst (cutD a lo hi))
  | .tup a => P (.tup (cutD a lo hi))
  | .str z => z.length ≤ sizeLine ∧ P (.str (cutS z lo hi))
  | _ => False
def dSl (ta : DT) (tl th : DTO) : DT := fun S P => ta S fun x S1 => tl S1 fun lo S2 => th S2 fun hi S3 => slD x lo hi fun d => P d S3
theorem cut_whole {α : Type} {xs : List α} {lo hi : Option Int} (h : HT.sIx xs.length 0 lo = 0 ∧ HT.sIx xs.length xs.length hi = xs.length) : cutD xs lo hi = xs := by
  unfold cutD
  rw [h.1, h.2, List.drop_zero, Nat.sub_zero, List.take_length]
theorem de_sl {e : Expr} {te : DT} {lo hi : Option Expr} {tl th : DTO} {pos p2 : Pos} (he : DE X W e te) (hl : DP X W lo tl) (hu : DP X W hi th) : DE X W (.Subscript e (.Slice lo hi none p2) pos) (dSl te tl th) := by
  refine pe_imp (pe_slice (sl_list.or (sl_tupA.or sl_str)) he hl hu) fun σ H Q ⟨G, S, P, R, p, q⟩ => ?_
  refine ⟨G, S, _, R, p, fun x S1 p1 v H1 G1 s1 R1 d1 => ⟨G1, S1, _, R1, p1, fun l S2 p2 H2 G2 s2 R2 => ⟨G2, S2, _, R2, p2, fun u S3 p3 H3 G3 s3 R3 => ?_⟩⟩⟩
  have d1 := Dv.up (s2.trans s3) _ _ d1
  have s13 := s1.trans (s2.trans s3)
  cases x with
  | lst ds =>
    cases d1 with
    | @lst a xs _ h1 h2 =>
      refine .inl ⟨_, _, rfl, SqL.of (R3.gh _ _ h1), fun p hp => ?_⟩
      have g := same_upd (o := .lst (cutV xs l u)) (R3.gh.free hp)
      exact q _ S3 p3 _ _ _ (s13.trans g) (R3.new hp) (.lst upd_same (DvAll.up g _ _ (cutD_dv h2)))
  | tup ds =>
    cases d1 with
    | @tup a xs _ h1 h2 =>
      refine .inr (.inl ⟨_, _, rfl, SqT.of (R3.gh _ _ h1), fun w => ?_, fun _ p hp => ?_⟩)
      · rw [dva_len h2] at w
        have p3 : P (.tup (cutD ds l u)) S3 := p3
        rw [cut_whole w] at p3
        exact q _ S3 p3 _ H3 G3 s13 R3 (.tup h1 h2)
      · have g := same_upd (o := .tup (cutV xs l u)) (R3.gh.free hp)
        exact q _ S3 p3 _ _ _ (s13.trans g) (R3.new hp) (.tup upd_same (DvAll.up g _ _ (cutD_dv h2)))
  | str z =>
    cases d1
    exact .inr (.inr ⟨z, rfl, p3.1, q _ S3 p3.2 _ H3 G3 s13 R3 (.str _)⟩)
  | _ => exact p3.elim
end
end Dl
namespace Dl
open PySem PySem.Spec PyProof.Rows L2 Sw
section
variable {kk : Dek} {X : Cx} {W : Wd kk} {a b e : Expr} {es : List Expr} {ta tb te : DT} {pos apos cpos : Pos}
theorem dn (i : Nat) {x : Str} (hN : X.N[i]? = some x := by rfl) (hv : Vis X.env.scope x := by first | exact .inl rfl | exact .inr (.inl rfl) | exact .inr (.inr rfl)) (hd : (x == ("__debug__" : Str)) = false := by decide) (hcd : (x == ("__classdict__" : Str)) = false := by decide) :
    DE X W (.Name x pos) (dVar i) := de_var hN hv hd hcd
/-- a built-in class as a value -/
theorem dty {T : String} {x : Str} (hg : Gl X x) (hm : X.mg x = none) (hv : bootBuiltins x = some (.type T)) (hn : x ≠ "__name__" := by decide) (hd : (x == ("__debug__" : Str)) = false := by decide) : DE X W (.Name x pos) (dC (.at (.ty T))) :=
  de_at (pe_bltn (v := .ty T) hg hm hv rfl hn hd)
/-! ### a, b = x, y -/
def dPar (i j : Nat) (t : DTA) : DST := fun E S => t S fun ds S1 => match ds with
  | [x, y] => E.nx ⟨setS (setS S1.ρ i (some (.v x))) j (some (.v y)), S1.dr⟩
  | _ => False
theorem ds_par {i j : Nat} {x y : Str} {ta : DTA} {px py pt : Pos} {kt k2 pt2} (hc : X.calm = true) (hN : X.N.Nodup) (hi : X.N[i]? = some x) (hj : X.N[j]? = some y) (hij : i ≠ j)
    (hx : X.env.scope.names.lookup x = some .local) (hy : X.env.scope.names.lookup y = some .local) (ha : DA X W [a, b] ta)
    (h : ∀ {t : TA}, PA X [a, b] t → PS X (.Assign [.Tuple [.Name x px, .Name y py] kt pt] (.Tuple [a, b] k2 pt2) pos) (tPar i j t)) : DS X W (.Assign [.Tuple [.Name x px, .Name y py] kt pt] (.Tuple [a, b] k2 pt2) pos) (dPar i j ta) := by
  refine ps_imp (h ha) fun N σ H ⟨G, S, E, R, p, ok⟩ => ⟨G, S, _, R, p, fun ds S1 p1 vs H1 G1 s1 R1 d1 => ?_⟩
  match ds, d1, p1 with
  | [x, y], .cons h1 (.cons h2 .nil), p1 => exact ⟨_, _, rfl, ok.nx _ _ H1 G1 s1 p1 ((R1.setV h1).setV h2)⟩
/-! ### while -/
def whL (c : DTT) (tb : DST) (E : DEnds) : Nat → Ds → Prop
  | 0, _ => False
  | n + 1, S => c S fun b S1 => onT b (tb { E with nx := whL c tb E n, ct := whL c tb E n, bk := E.nx } S1) (E.nx S1)
def dWhile (c : DTT) (tb : DST) : DST := fun E S => ∃ n, whL c tb E n S
theorem ds_while {c : Expr} {body : List Stmt} {tc : DTT} {tb : DST} (hp : PassesOwn (model X.prog X.w) X.A X.env X.xe) (hc : DTe X W c tc) (hb : DSs X W body tb) : DS X W (.While c body [] pos) (dWhile tc tb) := by
  refine ps_imp (ps_while hp hc hb) fun N σ H ⟨G, S, E, R, ⟨n, p⟩, ok⟩ => ?_
  refine ⟨fun m σ H => ∃ G1 S1, Same G G1 ∧ Rep W X.K G1 H σ S1 ∧ whL tc tb E m S1, ⟨n, G, S, Same.refl _, R, p⟩, ?_⟩
  rintro m σ1 H1 ⟨G1, S1, s1, R1, p1⟩
  cases m with
  | zero => exact p1.elim
  | succ m =>
    refine ⟨G1, S1, _, R1, p1, fun b S2 p2 H2 G2 s2 R2 => ?_⟩
    cases b with
    | true =>
      refine iteT ⟨fun σ' H' => ∃ G1 S1, Same G G1 ∧ Rep W X.K G1 H' σ' S1 ∧ whL tc tb E m S1, fun σ' H' h => ⟨m, Nat.lt_succ_self _, h⟩, ?_⟩
      have k2 := ok.up (s1.trans s2)
      exact ⟨G2, S2, _, R2, p2, ⟨fun S5 σ5 H5 G5 z n R5 => ⟨_, S5, (s1.trans s2).trans z, R5, n⟩, k2.rt, fun S5 σ5 H5 G5 z n R5 => k2.nx S5 σ5 H5 G5 z n R5, fun S5 σ5 H5 G5 z n R5 => ⟨_, S5, (s1.trans s2).trans z, R5, n⟩⟩⟩
    | false => exact iteF (ok.nx S2 σ1 H2 G2 (s1.trans s2) p2 R2)
/-! ### the list that a slot owns -/
def ownL (S : Ds) (i : Nat) : Option (List D) := match getS S.ρ i with
  | some (.o (.lst ds)) => some ds
  | _ => none
def putO (S : Ds) (i : Nat) (d : D) : Ds := ⟨setS S.ρ i (some (.o d)), S.dr⟩
theorem own_at {K : PySem.W.Frag} {G H : Hp} {σ : L2.St} {S : Ds} {i : Nat} {ds : List D} (R : Rep W K G H σ S) (h : ownL S i = some ds) : ∃ a xs, getS S.ρ i = some (.o (.lst ds)) ∧ σ[i]? = some (some (.ref a)) ∧ Frsh W G a ∧ H a = some (.lst xs) ∧ DvAll K G xs ds := by
  unfold ownL at h
  split at h
  · rename_i e
    cases h
    obtain ⟨v, ev, a, rfl, f, xs, o1, o2⟩ := R.sl i _ e
    exact ⟨a, xs, e, ev, f, o1, o2⟩
  · cases h
def dAppend (i : Nat) (te : DT) : DT := fun S P => (ownL S i).isSome = true ∧ te S fun d S1 => match ownL S1 i with
  | some ds => ds.length < sizeLine ∧ P .non (putO S1 i (.lst (ds ++ [d])))
  | none => False
theorem de_append {x : Str} {i : Nat} {p1 : Pos} (hn : PE X (.Name x p1) (tVar i)) (he : DE X W e te)
    (h : ∀ {to : TE} {t : TA}, PE X (.Name x p1) to → PA X [e] t → PE X (.Call (.Attribute (.Name x p1) "append" apos) [e] [] cpos) (tBM X.K "list" rAppend to t)) (hs : starEach [e] X.env = (false, eval e X.env) :: starEach [] X.env := by rfl) :
    DE X W (.Call (.Attribute (.Name x p1) "append" apos) [e] [] cpos) (dAppend i te) := by
  refine pe_imp (h hn (pa_cons he pa_nil hs)) fun σ H Q ⟨G, S, P, R, ⟨o0, p⟩, q⟩ => ?_
  obtain ⟨ds0, e0⟩ := Option.isSome_iff_exists.mp o0
  obtain ⟨a, xs, _, ev, f, o1, o2⟩ := own_at R e0
  refine ⟨_, ev, .inl ⟨rfl, xs, SqL.of o1⟩, G, S, _, R, p, fun d S1 p1 v H1 G1 s1 R1 d1 => ?_⟩
  cases e1 : ownL S1 i with
  | none => rw [e1] at p1; exact p1.elim
  | some ds =>
    rw [e1] at p1
    obtain ⟨a', ys, g1, ev', f', o1', o2'⟩ := own_at R1 e1
    rw [ev] at ev'
    cases ev'
    exact ⟨a, ys, v, rfl, rfl, o1', by rw [dva_len o2']; exact p1.1, q _ _ p1.2 _ _ G1 s1 (R1.wrO g1 ev f' ⟨_, upd_same, dva_app o2' (.cons d1 .nil)⟩) .non⟩
def dExtend (i : Nat) (te : DT) : DT := fun S P => (ownL S i).isSome = true ∧ te S fun d S1 => match ownL S1 i, d with
  | some ds, .lst es => ds.length + es.length ≤ sizeLine ∧ P .non (putO S1 i (.lst (ds ++ es)))
  | _, _ => False
theorem de_extend {x : Str} {i : Nat} {p1 : Pos} (hn : PE X (.Name x p1) (tVar i)) (he : DE X W e te)
    (h : ∀ {to : TE} {t : TA}, PE X (.Name x p1) to → PA X [e] t → PE X (.Call (.Attribute (.Name x p1) "extend" apos) [e] [] cpos) (tBM X.K "list" rExtend to t)) (hs : starEach [e] X.env = (false, eval e X.env) :: starEach [] X.env := by rfl) :
    DE X W (.Call (.Attribute (.Name x p1) "extend" apos) [e] [] cpos) (dExtend i te) := by
  refine pe_imp (h hn (pa_cons he pa_nil hs)) fun σ H Q ⟨G, S, P, R, ⟨o0, p⟩, q⟩ => ?_
  obtain ⟨ds0, e0⟩ := Option.isSome_iff_exists.mp o0
  obtain ⟨a, xs, _, ev, f, o1, o2⟩ := own_at R e0
  refine ⟨_, ev, .inl ⟨rfl, xs, SqL.of o1⟩, G, S, _, R, p, fun d S1 p1 v H1 G1 s1 R1 d1 => ?_⟩
  cases e1 : ownL S1 i with
  | none => rw [e1] at p1; exact p1.elim
  | some ds =>
    rw [e1] at p1
    cases d with
    | lst es =>
      cases d1 with
      | @lst b zs _ k1 k2 =>
        obtain ⟨a', ys, g1, ev', f', o1', o2'⟩ := own_at R1 e1
        rw [ev] at ev'
        cases ev'
        exact ⟨a, b, ys, zs, rfl, rfl, o1', R1.gh _ _ k1, by rw [dva_len o2', dva_len k2]; exact p1.1, q _ _ p1.2 _ _ G1 s1 (R1.wrO g1 ev f' ⟨_, upd_same, dva_app o2' k2⟩) .non⟩
    | _ => exact p1.elim
def dPop (i : Nat) : DT := fun S P => match ownL S i with
  | some ds => match ds.getLast? with
    | some d => P d (putO S i (.lst ds.dropLast))
    | none => False
  | none => False
theorem dva_dropLast {K : PySem.W.Frag} {G : Hp} : ∀ {vs : List V} {ds : List D}, DvAll K G vs ds → DvAll K G vs.dropLast ds.dropLast
  | _, _, .nil => .nil
  | _, _, .cons _ .nil => .nil
  | _, _, .cons h (.cons h2 t) => .cons h (dva_dropLast (.cons h2 t))
theorem de_pop {x : Str} {i : Nat} {p1 : Pos} (hn : PE X (.Name x p1) (tVar i))
    (h : ∀ {to : TE}, PE X (.Name x p1) to → PE X (.Call (.Attribute (.Name x p1) "pop" apos) [] [] cpos) (tBM0 X.K "list" rPop to)) : DE X W (.Call (.Attribute (.Name x p1) "pop" apos) [] [] cpos) (dPop i) := by
  refine pe_imp (h hn) fun σ H Q ⟨G, S, P, R, p, q⟩ => ?_
  unfold dPop at p
  cases e1 : ownL S i with
  | none => rw [e1] at p; exact p.elim
  | some ds =>
    rw [e1] at p
    obtain ⟨a, xs, g1, ev, f, o1, o2⟩ := own_at R e1
    simp only at p
    split at p
    · rename_i d ed
      rw [List.getLast?_eq_getElem?] at ed
      obtain ⟨v, ev2, dv⟩ := dva_get' o2 ed
      refine ⟨_, ev, .inl ⟨rfl, xs, SqL.of o1⟩, a, xs, v, rfl, rfl, o1, by rw [dva_len o2]; exact ev2, q _ _ p _ _ G (Same.refl _) (R.wrO g1 ev f ⟨_, upd_same, dva_dropLast o2⟩) dv⟩
    · exact p.elim
/-- x[e], x an owned list -/
def dIxO (i : Nat) (tb : DT) : DT := fun S P => tb S fun y S1 => match ownL S1 i, y with
  | some ds, .int j => match atI ds j with
    | some d => P d S1
    | none => False
  | _, _ => False
theorem de_ixO {x : Str} {i : Nat} {p1 : Pos} (hn : PE X (.Name x p1) (tVar i)) (hb : DE X W b tb) (hs : PlainIx b) : DE X W (.Subscript (.Name x p1) b pos) (fun S P => (ownL S i).isSome = true ∧ dIxO i tb S P) := by
  refine pe_imp (pe_ix ix_list hn hb hs) fun σ H Q ⟨G, S, P, R, ⟨o0, p⟩, q⟩ => ?_
  obtain ⟨ds0, e0⟩ := Option.isSome_iff_exists.mp o0
  obtain ⟨a, xs, _, ev, f, o1, o2⟩ := own_at R e0
  refine ⟨_, ev, G, S, _, R, p, fun y S1 p1 v H1 G1 s1 R1 d1 => ?_⟩
  cases e1 : ownL S1 i with
  | none => rw [e1] at p1; exact p1.elim
  | some ds =>
    rw [e1] at p1
    cases y with
    | int j =>
      cases d1
      obtain ⟨a', ys, g1, ev', f', o1', o2'⟩ := own_at R1 e1
      rw [ev] at ev'
      cases ev'
      simp only at p1
      split at p1
      · rename_i d ed
        obtain ⟨u, eu, du⟩ := atI_dv o2' ed
        exact ⟨_, _, j, u, rfl, rfl, SqL.of o1', eu, q _ S1 p1 u H1 G1 s1 R1 du⟩
      · exact p1.elim
    | _ => exact p1.elim
/-- len(x), x an owned list -/
def dLenO (i : Nat) : DT := fun S P => match ownL S i with
  | some ds => P (.int (ds.length : Nat)) S
  | none => False
theorem de_lenO {x f : Str} {i : Nat} {p p1 : Pos} (hn : PE X (.Name x p1) (tVar i)) (h : ∀ {t : TA}, PA X [.Name x p1] t → PE X (.Call (.Name f p) [.Name x p1] [] pos) (tCB (fun xs H Q => ∃ p ys, xs = [V.ref p] ∧ (SqL X.K H p ys ∨ SqT X.K H p ys) ∧ Q (.int ys.length) H) t))
    (hs : starEach [.Name x p1] X.env = (false, eval (.Name x p1) X.env) :: starEach [] X.env := by rfl) : DE X W (.Call (.Name f p) [.Name x p1] [] pos) (dLenO i) := by
  refine pe_imp (h (pa_cons hn pa_nil hs)) fun σ H Q ⟨G, S, P, R, p, q⟩ => ?_
  unfold dLenO at p
  cases e1 : ownL S i with
  | none => rw [e1] at p; exact p.elim
  | some ds =>
    rw [e1] at p
    obtain ⟨a, xs, g1, ev, f, o1, o2⟩ := own_at R e1
    exact ⟨_, ev, a, xs, rfl, .inl (SqL.of o1), by rw [dva_len o2]; exact q _ S p _ H G (Same.refl _) R (.int _)⟩
end
end Dl
namespace Dl
open PySem PySem.Spec PyProof.Rows L2 Sw
/-! ### < of ints, texts, tuples of such -/
/-- data of one kind: how it stands in D -/
structure Kn (α : Type) [DecidableEq α] [PySem.W.DatumOrd α] where
  e : α → D
  p : ∀ a, pureD (e a) = true
  t : ∀ a, toPy (e a) = PySem.W.Datum.toD a
  d : PySem.W.Datum.depth α ≤ 60
def dLtK {α : Type} [DecidableEq α] [PySem.W.DatumOrd α] (κ : Kn α) (x y : D) (P : D → Prop) : Prop := ∃ a b : α, x = κ.e a ∧ y = κ.e b ∧ P (.bl (PySem.W.DatumOrd.lt a b))
theorem do_ltK {kk : Dek} {X : Cx} {W : Wd kk} {α : Type} [DecidableEq α] [PySem.W.DatumOrd α] (κ : Kn α) (hu : X.A.units + 64 < cLine) : DOpB X W (compareOp .Lt) (dLtK κ) := by
  refine ⟨_, op_ltD α hu κ.d, fun G H σ S v w x y P Q R hv hw ⟨a, b, ea, eb, h⟩ q => ?_⟩
  subst ea eb
  have h1 := dp_same R.gh _ _ (Dv.dp _ _ (κ.p a) hv)
  have h2 := dp_same R.gh _ _ (Dv.dp _ _ (κ.p b) hw)
  rw [κ.t] at h1 h2
  exact ⟨a, b, h1, h2, q _ h⟩
def knI : Kn Int := ⟨fun i => .int i, fun _ => rfl, fun _ => rfl, by decide⟩
def knS : Kn Str := ⟨fun i => .str i, fun _ => rfl, fun _ => rfl, by decide⟩
def knIS : Kn (Int × Str) := ⟨fun p => .tup [.int p.1, .str p.2], fun _ => rfl, fun _ => rfl, by decide⟩
def knISI : Kn (PySem.W.T3 Int Str Int) := ⟨fun p => .tup [.int p.1, .str p.2, .int p.3], fun _ => rfl, fun _ => rfl, by decide⟩
/-- ascending -/
def ltAt {α : Type} [DecidableEq α] [PySem.W.DatumOrd α] (as : List α) (i : Nat) : Bool := match as[i]?, as[i + 1]? with
  | some a, some b => PySem.W.DatumOrd.lt a b
  | _, _ => true
def ascB {α : Type} [DecidableEq α] [PySem.W.DatumOrd α] (as : List α) : Bool := (List.range (as.length - 1)).all fun i => ltAt as i
theorem seqLen_of {α : Type} {as : List α} {f : α → D} {d : D} (h : d = .tup (as.map f) ∨ d = .lst (as.map f)) (P : D → Prop) (p : P (.int (as.length : Nat))) : dLen [d] P := by
  rcases h with rfl | rfl
  · show P (.int ((as.map f).length : Nat)); rw [List.length_map]; exact p
  · show P (.int ((as.map f).length : Nat)); rw [List.length_map]; exact p
theorem atI_map {α : Type} {as : List α} {f : α → D} {j : Nat} {a : α} (h : as[j]? = some a) : atI (as.map f) (j : Int) = some (f a) := atI_nat (by rw [List.getElem?_map, h]; rfl)
theorem seqIx_of {α : Type} {as : List α} {f : α → D} {d : D} (h : d = .tup (as.map f) ∨ d = .lst (as.map f)) {i : Int} {j : Nat} {a : α} (ei : i = (j : Int)) (ea : as[j]? = some a) : (∀ z, d = .str z → z.length ≤ sizeLine) ∧ ixD d (.int i) = some (f a) := by
  subst ei
  rcases h with rfl | rfl
  · exact ⟨(fun z e => by cases e), atI_map ea⟩
  · exact ⟨(fun z e => by cases e), atI_map ea⟩
theorem dBools_map {f : List Bool → Bool} {l : List Bool} {P : D → Prop} (h : P (.bl (f l))) : dBools f [.lst (l.map D.bl)] P := by
  unfold dBools
  simp only
  rw [boolsOf_map]
  exact h
/-! ### any value: none, bools, ints, texts, lists, tuples, {} -/
mutual
def anyD : D → Bool
  | .non => true
  | .bl _ => true
  | .int _ => true
  | .str z => decide (z.length ≤ 1000000)
  | .lst ds => decide (ds.length ≤ 100000) && anyDs ds
  | .tup ds => decide (ds.length ≤ 100000) && anyDs ds
  | .dk ks ds => ks.isEmpty && ds.isEmpty
  | .dt _ _ => false
  | .ins _ _ _ => false
  | .at _ => false
def anyDs : List D → Bool
  | [] => true
  | d :: ds => anyD d && anyDs ds
end
theorem anyDs_all : ∀ ds : List D, anyDs ds = ds.all anyD
  | [] => rfl
  | d :: ds => by rw [anyDs, anyDs_all ds]; rfl
/-- none of the sorts that are not plain -/
def plain : D → Bool
  | .ins _ _ _ => false
  | .at _ => false
  | _ => true
theorem any_plain {d : D} (h : anyD d = true) : plain d = true := by
  cases d with
  | ins _ _ _ => exact h
  | «at» _ => exact h
  | _ => rfl
theorem any_str {z : Str} (h : anyD (.str z) = true) : z.length ≤ 1000000 := of_decide_eq_true h
theorem any_tup {ds : List D} (h : anyD (.tup ds) = true) : ds.length ≤ 100000 ∧ ∀ d ∈ ds, anyD d = true := by
  obtain ⟨h1, h2⟩ := Bool.and_eq_true_iff.mp (show (decide (ds.length ≤ 100000) && anyDs ds) = true from h)
  rw [anyDs_all] at h2
  exact ⟨of_decide_eq_true h1, List.all_eq_true.mp h2⟩
theorem any_lst {ds : List D} (h : anyD (.lst ds) = true) : ds.length ≤ 100000 ∧ ∀ d ∈ ds, anyD d = true := any_tup h
theorem any_mk {ds : List D} (h1 : ds.length ≤ 100000) (h2 : ∀ d ∈ ds, anyD d = true) : anyD (.tup ds) = true := by
  show (decide (ds.length ≤ 100000) && anyDs ds) = true
  rw [anyDs_all, decide_eq_true h1, Bool.true_and]
  exact List.all_eq_true.mpr h2
end Dl
namespace Dl
open PySem PySem.Spec PyProof.Rows L2 Sw
/-! ### dict comprehensions, keys of any kind that DPut knows -/
section
variable {X : Cx} {pl : List (Addr × Obj)} {σ : L2.St} {H H' : Hp} {s : Shared}
theorem dt_fresh {P : Program} {w : World} (G : Hp) (h : Heap) (big : sysModules < h.objs.size) : ObjOk P w G (h.push { cls := .type "dict", data := .dict #[] }) h.objs.size (.dT []) := by
  have e := dk_empty (P := P) (w := w) (H := G) h big
  exact ⟨e.1, e.2.1, [], .nil, _, #[], _, Heap.get?_push_size _ rfl, ⟨rfl, rfl, rfl⟩, rfl, rfl, .nil⟩
/-- the dict at D takes z under y -/
theorem put_ok {E : Value → Shared → Prop} {D : Addr} {y z : V} {u r : Value} {Q : Unit → Shared → Prop} (room : X.A.units < cLine) (J : Inv X pl σ H s) (p : DPut H D y z H') (ry : RelV y u) (rz : RelV z r) (k : ∀ s', Inv X pl σ H' s' → Q () s') :
    wpAny (model X.prog X.w) X.A (dictSet D u r) Q E s := by
  rcases p with ⟨kvs, key, at_, ey, few, eH⟩ | ⟨kvs, key, b, at_, ey, tup, few, eH⟩
  · subst ey eH
    exact d_dictSet J at_ few ry rz k
  · subst ey eH
    cases (id ry : u = .ref b)
    obtain ⟨l0, nm, rows, rel, of⟩ := dt_of J.hok at_
    refine wpAny_dictSet_heap (hsz := by rw [← Paired.length rel]; exact l0) (show (tupleKind (mixKind X.prog X.w)).room X.A from room) (key_of J.hok tup) of fun g of' same => k _ ?_
    have few' : (putK kvs key z).length ≤ sizeLine := Nat.le_trans (length_putK kvs key z) few
    obtain ⟨ob, es, ep, there, ex, da, en, _, nodup⟩ := of'
    refine d_write J (by rw [at_]; trivial) same ⟨ob, there⟩ ⟨few', nm, _, (rel.put key tup rz).keeps fun c ys ec => ?_, ob, es, ep, there, ex, da, en, nodup⟩
    exact (upd_ne (ne_of ec at_ fun q => nomatch q)).trans ec
/-- {k: v for target in iter if ..} by its turns: Pv i holds ahead of turn i, the new dict (o0 at first) at D within -/
def tDcP (o0 : HO) (wi : TI) (g : TG) (tt : TT) (tk tv : TE) (vs : List Nat) : TE := fun σ H Q => wi σ H fun J H1 => ∀ D, H1 D = none → ∃ (n : Nat) (Pv : Nat → Hp → Prop), Pv 0 (upd H1 D o0) ∧ (∀ G, Pv n G → J.stop n G ∧ Q (.ref D) G) ∧
  ∀ i G, i < n → Pv i G → J.go i G ∧ ∀ x G1, J.yld i G x G1 → g x (wipe σ vs) G1 fun σ2 G2 => wipe σ2 vs = wipe σ vs ∧ tt σ2 G2 fun b G3 => if b = true then tk σ2 G3 fun y G4 => tv σ2 G4 fun z G5 => ∃ G6, DPut G5 D y z G6 ∧ Pv (i + 1) G6 else Pv (i + 1) G3
theorem pe_dcP {kx vx tg iter : Expr} {ifs : List Expr} {sc : Scope} {own : List (Str × Nat)} {pos : Pos} {wi : TI} {g : TG} {tt : TT} {tk tv : TE} {o0 : HO} (ho : o0 = .dK [] ∨ o0 = .dT []) (room : X.A.units < cLine) (hc : X.calm = true) (hN : X.N.Nodup) (hi : PI X tg iter wi) (ok : BlkOk X.N X.env.scope sc own)
    (hg : ∀ (s : Shared) (H : Hp) (C : Addr) (cl : List (Str × Addr)) (fp : List Addr), PG (X.blk s H sc (compEnvC sc cl C X.env) fp) tg g) (ht : ∀ (s : Shared) (H : Hp) (C : Addr) (cl : List (Str × Addr)) (fp : List Addr), PTs (X.blk s H sc (compEnvC sc cl C X.env) fp) ifs tt)
    (hk : ∀ (s : Shared) (H : Hp) (C : Addr) (cl : List (Str × Addr)) (fp : List Addr), PE (X.blk s H sc (compEnvC sc cl C X.env) fp) kx tk)
    (he : ∀ (s : Shared) (H : Hp) (C : Addr) (cl : List (Str × Addr)) (fp : List Addr), PE (X.blk s H sc (compEnvC sc cl C X.env) fp) vx tv) (hs : ∀ x, foldedSetIterable iter X.env x = pure x := by intro _; rfl) :
    PE X (.DictComp kx vx [⟨tg, iter, ifs, 0⟩] sc pos) (tDcP o0 wi g tt tk tv (own.map (·.2))) := by
  constructor
  intro pl s σ H Q I h
  rw [arm_eval_DictComp]
  have clo : closureFor sc X.env = pure (cloFrom X.env.cells sc.names []) := closure_ok fun y hy e => I.ok.has _ ((ok.free y hy e).imp id id)
  refine wpAny_comprehension_free (use := none) rfl hs clo ok.kind (fun y hy e => (ok.uniq y hy).trans (by rw [e])) ?_
  refine thn (hi.run pl s σ H _ I h) fun _ s1 q1 => thn q1 ?_
  rintro _ s2 ⟨it, fp, tn, J, H2, rfl, I2, T, t2, f2, h2⟩
  refine wpAny_newObj_type ?_
  refine newEnv_comp ?_
  -- the new dict is tracked
  have new := I2.hok.fresh (Nat.le_refl s2.heap.objs.size)
  obtain ⟨n, Pv, p0, pEnd, pTurn⟩ := h2 _ new
  have I3 : Inv X pl σ (upd H2 s2.heap.objs.size o0) { s2 with heap := s2.heap.push { cls := .type "dict", data := .dict #[] } } := I2.laid (t' := s2.toks) (fun _ _ z => Heap.get?_push_of_some _ z) (Nat.le_refl _) (by
    rcases ho with rfl | rfl
    · exact dk_empty s2.heap I2.big
    · exact dt_fresh _ s2.heap I2.big)
  have fpOld : ∀ b ∈ fp, b < s2.heap.objs.size := fun b hb => let ⟨_, e, _⟩ := T.obj _ _ t2 b hb; Heap.lt_size e
  have fpFree : ∀ b ∈ fp, upd H2 s2.heap.objs.size o0 b = none := fun b hb => (upd_ne (Nat.ne_of_lt (fpOld b hb))).trans (f2 b hb).1
  generalize hs3 : ({ s2 with heap := s2.heap.push { cls := .type "dict", data := .dict #[] } } : Shared) = s3 at I3
  have old3 : ∀ b o, s2.heap.get? b = some o → s3.heap.get? b = some o := fun b o z => by rw [← hs3]; exact Heap.get?_push_of_some _ z
  have f3 : ∀ b ∈ fp, FpOk X pl (upd H2 s2.heap.objs.size o0) b ∧ b < s3.heap.objs.size := fun b hb => ⟨⟨fpFree b hb, (f2 b hb).2⟩, let ⟨o, e, _⟩ := T.obj _ _ t2 b hb; Heap.lt_size (old3 b o e)⟩
  have I4 := block_start (own := own) I3 ok hN f3
  generalize hD : s2.heap.objs.size = D at *
  generalize hB : upd H2 D o0 = HB at *
  show codeAny _ _ (.compStart (.DictComp kx vx [⟨tg, iter, ifs, 0⟩] sc pos) 0 (.ref it) (.ref D) (compEnvC sc (cellsFrom (s3.heap.objs.size + 1) sc.names (cloFrom X.env.cells sc.names [])) s3.heap.objs.size X.env)) (compPost (model X.prog X.w) X.A X.xe none (EP X pl σ Q) (.ref D) s3.heap.objs.size) { s3 with heap := pushCells (s3.heap.push { cls := .type "dict", data := .dict #[] }) sc.names }
  have rg := hg s3 HB s3.heap.objs.size (cellsFrom (s3.heap.objs.size + 1) sc.names (cloFrom X.env.cells sc.names [])) fp
  have rt := ht s3 HB s3.heap.objs.size (cellsFrom (s3.heap.objs.size + 1) sc.names (cloFrom X.env.cells sc.names [])) fp
  have rk := hk s3 HB s3.heap.objs.size (cellsFrom (s3.heap.objs.size + 1) sc.names (cloFrom X.env.cells sc.names [])) fp
  have rv := he s3 HB s3.heap.objs.size (cellsFrom (s3.heap.objs.size + 1) sc.names (cloFrom X.env.cells sc.names [])) fp
  have locs : (compEnvC sc (cellsFrom (s3.heap.objs.size + 1) sc.names (cloFrom X.env.cells sc.names [])) s3.heap.objs.size X.env).locals = s3.heap.objs.size := rfl
  generalize compEnvC sc (cellsFrom (s3.heap.objs.size + 1) sc.names (cloFrom X.env.cells sc.names [])) s3.heap.objs.size X.env = en at I4 rg rt rk rv locs ⊢
  generalize hs4 : ({ s3 with heap := pushCells (s3.heap.push { cls := .type "dict", data := .dict #[] }) sc.names } : Shared) = s4 at I4 ⊢
  have t4 : tn 0 s4.heap := T.keep _ _ _ t2 fun b _ o z => by rw [← hs4]; exact pushCells_keeps _ _ _ _ (Heap.get?_push_of_some _ (old3 b o z))
  have inFp : ∀ {τ : L2.St} {G : Hp} {s' : Shared}, Inv (X.blk s3 HB sc en fp) [] τ G s' → (∀ b ∈ fp, G b = none) → ∀ b ∈ fp, FpOk (X.blk s3 HB sc en fp) [] G b := fun {τ G s'} K z b hb =>
    ⟨z b hb, (K.ok.exf b hb).1, K.ok.exfs b hb, .inl hb, fun x c => (K.ok.exf b hb).2 x c, fun q hq => by cases hq⟩
  -- the loop
  have lp : codeAny (model X.prog X.w) X.A (.compLoop (.DictComp kx vx [⟨tg, iter, ifs, 0⟩] sc pos) 0 (.ref it) (.ref D) en) (compPost (model X.prog X.w) X.A X.xe none (EP X pl σ Q) (.ref D) s3.heap.objs.size) s4 := by
    refine compLoop_anyD (fun m s' => ∃ i G, m = n - i ∧ i ≤ n ∧ Inv (X.blk s3 HB sc en fp) [] (wipe σ (own.map (·.2))) G s' ∧ tn i s'.heap ∧ (∀ b ∈ fp, G b = none) ∧ Pv i G) ?_ n ⟨0, HB, rfl, Nat.zero_le _, I4, t4, fpFree, p0⟩
    rintro m s5 ⟨i, G, rfl, hle, I5, t5, f5, p5⟩
    by_cases hlt : i < n
    · obtain ⟨go, turn⟩ := pTurn i G hlt p5
      refine thnF (T.item (X.blk s3 HB sc en fp) rfl rfl rfl hc i [] s5 _ G (fun _ _ => False) I5 (inFp I5 f5) t5 go) ?_
      rintro r s6 ⟨u, rfl, h6⟩
      refine thnF h6 ?_
      rintro _ s7 ⟨x, G1, I7, r7, y7, t7, f7⟩
      have I7p := I7.pinned (inFp I7 f7) (T.obj _ _ t7)
      refine thnF (rg.run _ s7 _ G1 x u _ I7p r7 (turn x G1 y7)) ?_
      rintro _ s8 ⟨τ, G2, I8, wp, q8⟩
      refine thnF (rt.run _ s8 τ G2 _ I8 q8) ?_
      -- what ends a turn
      have next : ∀ {s' : Shared} {G' : Hp}, Inv (X.blk s3 HB sc en fp) ([] ++ pinsAt fp s7.heap) τ G' s' → Pv (i + 1) G' → ∃ m, m < n - i ∧ ∃ i G, m = n - i ∧ i ≤ n ∧ Inv (X.blk s3 HB sc en fp) [] (wipe σ (own.map (·.2))) G s' ∧ tn i s'.heap ∧ (∀ b ∈ fp, G b = none) ∧ Pv i G := fun {s' G'} K p => by
        have pin : ∀ b ∈ fp, ∀ o, s7.heap.get? b = some o → s'.heap.get? b = some o ∧ G' b = none := fun b hb o e =>
          have z := K.pin (b, o) (by simp [mem_pinsAt hb e])
          ⟨z.1, z.2.1⟩
        refine ⟨n - (i + 1), by omega, i + 1, G', rfl, hlt, (K.unpinned (pins := [])).weak (by rw [← wp, wipe_length]) (fun j v e => (wipe_some (by rw [wp]; exact e)).1), T.keep _ _ _ t7 fun b hb o e => (pin b hb o e).1, fun b hb => ?_, p⟩
        obtain ⟨o, e, _⟩ := T.obj _ _ t7 b hb
        exact (pin b hb o e).2
      rintro b s9 ⟨G3, I9, q9⟩
      cases b with
      | true =>
        rw [if_pos rfl] at q9 ⊢
        refine thnF (rk.run _ s9 τ G3 _ I9 q9) ?_
        rintro ku s10 ⟨y, G4, I10, ry, q10⟩
        refine thnF (rv.run _ s10 τ G4 _ I10 q10) ?_
        rintro vu s11 ⟨z, G5, I11, rz, G6, put, p⟩
        exact put_ok (X := X.blk s3 HB sc en fp) room I11 put ry rz fun _ I12 => next I12 p
      | false =>
        rw [if_neg Bool.false_ne_true] at q9 ⊢
        exact next I9 q9
    · obtain rfl : i = n := by omega
      obtain ⟨stop, q⟩ := pEnd G p5
      refine thnF (T.done (X.blk s3 HB sc en fp) rfl rfl rfl hc i [] s5 _ G (fun _ _ => False) I5 (inFp I5 f5) t5 stop) ?_
      rintro r s6 ⟨rfl, I6⟩
      have I7 : Inv X pl σ G s6 := I3.call' (ch := fp) I6.os I6.base I6.hok I6.bare fun b hb => by
        obtain ⟨⟨_, a1, _, a3, a4, a5⟩, _⟩ := f3 b hb
        exact ⟨a3, a1, a4, a5⟩
      have gone : G s3.heap.objs.size = none := by rw [← locs]; exact I6.free
      obtain ⟨mm, ns, _⟩ := I6.loc
      have ns : s6.heap.Ns s3.heap.objs.size mm := by rw [← locs]; exact ns
      obtain ⟨b0, b1, _, b3, b4, b5⟩ := I3.fpOk (Nat.le_refl _) gone
      exact ⟨mm, ns, fun g sb => ⟨.ref D, G, I7.turned (t' := s6.toks) (fun b o hb e => (sb.2 b hb).trans e) b0 b1 b3 b4 b5, rfl, q⟩⟩
  exact codeAny_compStart_dict lp (T.self X.A 0 _ _ _ t4 lp)
end
end Dl
namespace Ss
open PySem PySem.Spec PyProof.Rows L2 Sw
/-! ### sets of ints and texts, with what a walk over them asks -/
def kyOf (e : Int × Value) : Key := match e.2 with
  | .int i _ => .inl i
  | .str z _ => .inr z
  | _ => .inl 0
def Ent (w : World) (e : Int × Value) : Prop := keyIs (kyOf e) e.2 = true ∧ e.1 = keyH w (kyOf e)
/-- the set at a, its members L in some order -/
def SetM (w : World) (h : Heap) (a : Addr) (L : List Key) : Prop :=
  ∃ o es ep t, (h.get? a = some o ∧ o.ExactSet ∧ o.data = .set es ep t) ∧ (∀ e ∈ es.toList, Ent w e) ∧ L.Perm (es.toList.map kyOf) ∧ L.Nodup ∧ L.length < scanBound ∧
    (t.fits es.size = true ∧ Ris t.place.toList ∧ (w.params.followText "set-order" = true ∨ t.led = true))
theorem ky_int (i : Int) (tk : Tok) (n : Int) : kyOf (n, .int i tk) = .inl i := rfl
theorem ky_str (z : Str) (tk : Tok) (n : Int) : kyOf (n, .str z tk) = .inr z := rfl
theorem is_scan {k : Key} {u : Value} (h : keyIs k u = true) : u.scannable = true := by
  rcases keyIs_shape h with ⟨i, t, _, rfl⟩ | ⟨z, t, _, rfl⟩ <;> rfl
theorem is_ky {k : Key} {u : Value} (h : keyIs k u = true) (n : Int) : kyOf (n, u) = k := by
  rcases keyIs_shape h with ⟨i, t, rfl, rfl⟩ | ⟨z, t, rfl, rfl⟩ <;> rfl
theorem is_inj {a b : Key} {u : Value} (ha : keyIs a u = true) (hb : keyIs b u = true) : a = b := (is_ky ha 0).symm.trans (is_ky hb 0)
section
variable {P : Program} {w : World} {h h' : Heap} {a : Addr} {L : List Key}
theorem ents_el {l : List (Int × Value)} (g : ∀ e ∈ l, Ent w e) : ElemsOf (mixKind P w) l := fun e he => ⟨⟨kyOf e, (g e he).1, (g e he).2⟩, is_scan (g e he).1⟩
theorem ent_is {e : Int × Value} (g : Ent w e) (k : Key) : (mixKind P w).is k e.2 = true ↔ kyOf e = k := ⟨fun q => is_inj g.1 q, fun q => q ▸ g.1⟩
theorem SetM.keep (R : SetM w h a L) (k : ∀ o, h.get? a = some o → h'.get? a = some o) : SetM w h' a L := by
  obtain ⟨o, es, ep, t, ⟨g1, g2, g3⟩, r⟩ := R
  exact ⟨o, es, ep, t, ⟨k o g1, g2, g3⟩, r⟩
theorem SetM.there (R : SetM w h a L) : ∃ o, h.get? a = some o := by
  obtain ⟨o, _, _, _, ⟨g1, _, _⟩, _⟩ := R
  exact ⟨o, g1⟩
theorem setM_void : SetM w (h.push (bare (!w.params.followText "set-order"))) h.objs.size [] :=
  ⟨_, #[], 0, _, ⟨Heap.get?_push_size _ rfl, ⟨rfl, rfl, rfl⟩, rfl⟩, (fun e he => by simp at he), .refl _, .nil, by decide, by rfl, .nil, by
    show _ ∨ (!w.params.followText "set-order") = true
    cases w.params.followText "set-order" <;> simp⟩
end
section
variable {P : Program} {w : World} {A : Around} {E : Value → Shared → Prop} {s : Shared} {a : Addr} {L : List Key}
theorem put_at {h : Heap} {o : Obj} {es fs : Array (Int × Value)} {ep : Nat} {t u : SetTable} (g : h.get? a = some o) (d : o.data = .set es ep t) : (h.update a (Obj.putSet fs u)).get? a = some { o with data := .set fs (ep + 1) u } := by
  have e := putSet_of fs u d
  have z := Heap.get?_update_self (Obj.putSet fs u) g (by rw [e]; rfl)
  rwa [e] at z
/-- the rows are stored, and laid anew if the table is full -/
theorem rest_add {f : Bool → Sem Unit} (hf : ∀ (b : Bool) (s₁ : Shared) (Q : Unit → Shared → Prop), Q () s₁ → wpAny (model P w) A (f b) Q E s₁) {o : Obj} {es fs : Array (Int × Value)} {ep : Nat} {t u : SetTable}
    (g : s.heap.get? a = some o) (x : o.ExactSet) (d : o.data = .set es ep t) (ent : ∀ e ∈ fs.toList, Ent w e) (pm : L.Perm (fs.toList.map kyOf)) (nd : L.Nodup) (few : L.length < scanBound)
    (fit : u.fits fs.size = true) (ris : Ris u.place.toList) (led : w.params.followText "set-order" = true ∨ u.led = true) {full : Bool} {R : Option Bool → Shared → Prop}
    (k : ∀ h', Heap.SameBut a s.heap h' → SetM w h' a L → R (some true) { s with heap := h' }) :
    wpAny (model P w) A (do
      storeSet a fs u
      if (!full && u.tooFull) = true then do
        f (relayAll u fs (SetTable.grown fs.size)).2.2
        storeSet a (relayAll u fs (SetTable.grown fs.size)).1 (relayAll u fs (SetTable.grown fs.size)).2.1
        pure (some true)
      else pure (some true)) R E s := by
  have zf : fs.size = L.length := by rw [pm.length_eq, List.length_map, Array.length_toList]
  have b1 : fs.size < scanBound := by omega
  refine wpAny_bind (wpAny_storeSet_of g d ?_ (fits_of_scanBound b1))
  have g1 := put_at (fs := fs) (u := u) g d
  have c1 := Heap.SameBut.update s.heap a (Obj.putSet fs u)
  split
  · obtain ⟨p2, f2, r2, l2⟩ := And.intro (relayAll_perm u fs (SetTable.grown fs.size)) (And.intro (relayAll_fits u fs (SetTable.grown fs.size)) (And.intro (relayAll_ris u fs (SetTable.grown fs.size)) (relayAll_led u fs (SetTable.grown fs.size))))
    revert p2 f2 r2 l2
    generalize relayAll u fs (SetTable.grown fs.size) = Y
    obtain ⟨gs, v, gave⟩ := Y
    intro p2 f2 r2 l2
    have zg : gs.size = fs.size := by rw [← Array.length_toList, p2.length_eq, Array.length_toList]
    refine wpAny_bind (hf _ _ _ (wpAny_bind (wpAny_storeSet_of g1 rfl (wpAny_pure (k _ (c1.trans (Heap.SameBut.update _ a _)) ?_)) (fits_of_scanBound (zg.symm ▸ b1)))))
    exact ⟨_, gs, _, v, ⟨put_at (fs := gs) (u := v) g1 rfl, x, rfl⟩, fun e he => ent e (p2.mem_iff.mp he), pm.trans (p2.map kyOf).symm, nd, few, f2, r2, led.imp id fun z => l2.trans z⟩
  · exact wpAny_pure (k _ c1 ⟨_, fs, _, u, ⟨g1, x, rfl⟩, ent, pm, nd, few, fit, ris, led⟩)
/-- members with k -/
structure Ins (L : List Key) (k : Key) (L' : List Key) : Prop where
  mem : ∀ j, j ∈ L' ↔ j = k ∨ j ∈ L
  len : L'.length ≤ L.length + 1
theorem add_hashed {k : Key} {x : Value} {Q : Bool → Shared → Prop} (R : SetM w s.heap a L) (hk : keyIs k x = true) (room : L.length + 1 < scanBound)
    (q : ∀ h' b L', Heap.SameBut a s.heap h' → SetM w h' a L' → Ins L k L' → Q b { s with heap := h' }) : wpAny (model P w) A (setAddHashed a x (keyH w k)) Q E s := by
  obtain ⟨o, es, ep, t, ⟨g, ex, d⟩, ent, pm, nd, few, fit, ris, led⟩ := R
  have sc := is_scan hk
  have el : ElemsOf (mixKind P w) es.toList := ents_el ent
  have zs : es.size = L.length := by rw [pm.length_eq, List.length_map, Array.length_toList]
  have b0 : es.size < scanBound := by omega
  have iff : k ∈ L ↔ ∃ e ∈ es.toList, (mixKind P w).is k e.2 = true := by
    rw [pm.mem_iff, List.mem_map]
    exact ⟨fun ⟨e, he, z⟩ => ⟨e, he, (ent_is (ent e he) k).mpr z⟩, fun ⟨e, he, z⟩ => ⟨e, he, (ent_is (ent e he) k).mp z⟩⟩
  unfold setAddHashed setAddHashedIn
  refine wpAny_holding (wpAny_bind (wpAny_setState_of g d fit ?_))
  dsimp only
  rw [byScan_of sc b0 el, if_pos rfl]
  unfold setAddByScan
  refine wpAny_bind (wpAny_bind (wpAny_rule (wpAny_bind (wpAny_setScan_of (knd := mixKind P w) hk g d fit el ?_))))
  cases fi : List.findIdx? (fun e => (mixKind P w).is k e.2) es.toList with
  | some j =>
    obtain ⟨hj, pj, _⟩ := List.findIdx?_eq_some_iff_getElem.mp fi
    have hin : k ∈ L := iff.mpr ⟨_, List.getElem_mem hj, pj⟩
    exact wpAny_pure (wpAny_pure (q s.heap _ L (Heap.SameBut.refl a _) ⟨o, es, ep, t, ⟨g, ex, d⟩, ent, pm, nd, few, fit, ris, led⟩ ⟨fun j => ⟨.inr, fun z => z.elim (fun e => e ▸ hin) id⟩, Nat.le_succ _⟩))
  | none =>
    have out : k ∉ L := fun z => by
      obtain ⟨e, he, y⟩ := iff.mp z
      have c := List.findIdx?_eq_none_iff.mp fi e he
      rw [y] at c; cases c
    have quiet : ∀ (b : Bool) {s₁ : Shared} {R : Unit → Shared → Prop}, R () s₁ → wpAny (model P w) A (match b with | true => rule "set.scan.the-table-gave-way" | false => pure ()) R E s₁ := fun b s₁ R z => by
      cases b <;> first | exact wpAny_pure z | exact wpAny_rule z
    obtain ⟨p1, f1, r1, l1⟩ := And.intro (layNew_perm t es (keyH w k) x) (And.intro (layNew_fits t es (keyH w k) x) (And.intro (layNew_ris t es (keyH w k) x ris) (layNew_led t es (keyH w k) x)))
    dsimp only
    revert p1 f1 r1 l1
    generalize layNew t es (keyH w k) x = Y
    obtain ⟨fs, u, wasD, gave⟩ := Y
    intro p1 f1 r1 l1
    dsimp only at p1 f1 r1 l1 ⊢
    rw [Array.toList_push] at p1
    have p2 : fs.toList.Perm ((keyH w k, x) :: es.toList) := p1.trans (List.perm_append_singleton _ _)
    have ent2 : ∀ e ∈ fs.toList, Ent w e := fun e he => by
      rcases List.mem_cons.mp (p2.mem_iff.mp he) with rfl | z
      · have e1 := is_ky hk (keyH w k)
        exact ⟨by rw [e1]; exact hk, by rw [e1]⟩
      · exact ent e z
    have pm2 : (k :: L).Perm (fs.toList.map kyOf) := by
      refine ((pm.cons k).trans ?_).trans (p2.map kyOf).symm
      rw [List.map_cons, is_ky hk]
    have nd2 : (k :: L).Nodup := List.nodup_cons.mpr ⟨out, nd⟩
    have few2 : (k :: L).length < scanBound := room
    have led2 : w.params.followText "set-order" = true ∨ u.led = true := led.imp id fun z => l1.trans z
    have fin : ∀ h', Heap.SameBut a s.heap h' → SetM w h' a (k :: L) → ∀ b, Q b { s with heap := h' } := fun h' sb r b => q h' b _ sb r ⟨fun j => List.mem_cons, Nat.le_refl _⟩
    refine wpAny_bind (quiet _ ?_)
    split
    · refine wpAny_bind ?_
      rw [hashByValue_scannable 8 sc]
      refine wpAny_pure (rest_add ?_ g ex d ent2 pm2 nd2 few2 ?_ ?_ ?_ ?_)
      · intro b s₁ R z; cases b <;> first | exact wpAny_pure z | exact wpAny_rule z
      · first | (split <;> first | exact f1 | exact SetTable.fits_plain_off f1) | exact f1
      · first | (split <;> exact r1) | exact r1
      · first | (split <;> exact led2) | exact led2
      · intro h' sb r; exact wpAny_pure (fin h' sb r _)
    · refine wpAny_bind (wpAny_pure ?_)
      simp only [↓reduceIte]
      refine rest_add ?_ g ex d ent2 pm2 nd2 few2 f1 r1 led2 ?_
      · intro b s₁ R z; cases b <;> first | exact wpAny_pure z | exact wpAny_rule z
      · intro h' sb r; exact wpAny_pure (fin h' sb r _)
end
end Ss
namespace Ss
open PySem PySem.Spec PyProof.Rows L2 Sw
section
variable {P : Program} {w : World} {A : Around} {E : Value → Shared → Prop} {s : Shared}
/-- a set is made ahead of its items -/
theorem led_new (x : Value) {Q : Value → Shared → Prop} (k : Q (.ref s.heap.objs.size) { s with heap := s.heap.push (bare (!w.params.followText "set-order")) }) :
    codeAny (model P w) A (.call (.builtin "set.__new__") ⟨[.type "set", x], []⟩) (wants Q E) s := by
  refine codeAny_of_tree (show wpAny _ A.in1 (checkBuiltinCall "set.__new__" ⟨[.type "set", x], []⟩ >>= fun _ => again (.builtin "set.__new__" ⟨[.type "set", x], []⟩)) _ _ s from ?_)
  refine wpAny_bind (wpAny_of_eq (PySem.F.newCall_set_1 x) (wpAny_pure ⟨plainId_quiet PySem.F.plain_set_new _, codeAny_builtin PySem.F.entry_set_new ?_⟩))
  rw [Around.under_plainId PySem.F.plain_set_new _]
  unfold Builtin.«set.__new__» Builtin.Frozenset.newClass
  have same := sub_set_self
  obtain ⟨h0, g0, d0, t0, o0⟩ := s
  dsimp only
  wp_walk
  refine wpAny_askSetting (wpAny_pure ?_)
  dsimp only
  simp only [newObj]
  exact wpAny_bind (wpAny_alloc (wpAny_pure (wpAny_pure k)))
end
/-- members as they come -/
structure Cov (ks : List Key) (i : Nat) (L : List Key) : Prop where
  mem : ∀ j, j ∈ L ↔ j ∈ ks.take i
  len : L.length ≤ i
theorem Cov.next {ks L L' : List Key} {i : Nat} {k : Key} (c : Cov ks i L) (e : ks[i]? = some k) (n : Ins L k L') : Cov ks (i + 1) L' := by
  have t : ks.take (i + 1) = ks.take i ++ [k] := by rw [List.take_succ, e]; rfl
  refine ⟨fun j => ?_, Nat.le_trans n.len (Nat.succ_le_succ c.len)⟩
  rw [n.mem j, c.mem j, t, List.mem_append, List.mem_singleton]
  exact Or.comm
section
variable {P : Program} {w : World} {A : Around} {R : Result → Shared → Prop} {J : Addr} {fp wr : List Addr} {G : Array GenState → Array GenState → Prop} {n : Nat} {Pv : Nat → Value → Prop} {St : Nat → Shared → Prop}
theorem fill (W : WalksS P w A.in1 J fp wr G n Pv St) (a : Addr) (ha : a ∉ fp) (ks : List Key) (few : n + 1 < scanBound) (val : ∀ i v, Pv i v → ∃ k, ks[i]? = some k ∧ keyIs k v = true) :
    ∀ (m i : Nat) (s : Shared) (L : List Key), n - i = m → i ≤ n → St i s → SetM w s.heap a L → Cov ks i L →
      (∀ s' L', Moved (a :: wr) G s s' → SetM w s'.heap a L' → Cov ks n L' → R (.ok (.ret .none)) s') → codeAny (model P w) A (.builtin "set.update.loop" ⟨[.ref a, .ref J], []⟩) R s := by
  have nw : a ∉ wr := fun z => ha (W.sub _ z)
  have up : ∀ b ∈ wr, b ∈ a :: wr := fun b z => List.mem_cons_of_mem _ z
  intro m
  induction m with
  | zero =>
    intro i s L hm hi st R0 cv q
    obtain rfl : i = n := by omega
    refine codeAny_builtin (b := Builtin.«set.update.loop») PyProof.Rows.F.entry_set_update_loop ?_
    rw [show A.under (.builtin "set.update.loop" ⟨[.ref a, .ref J], []⟩) = A.in1 from Around.under_plainId PyProof.Rows.F.plain_set_update_loop _]
    refine wpAny_bind (W.done s _ _ st fun s2 mv => ?_)
    exact wpAny_pure (q s2 L (mv.mono up) (R0.keep fun o e => mv.heap a o nw e) cv)
  | succ m ih =>
    intro i s L hm hi st R0 cv q
    have lt : i < n := by omega
    refine codeAny_builtin (b := Builtin.«set.update.loop») PyProof.Rows.F.entry_set_update_loop ?_
    rw [show A.under (.builtin "set.update.loop" ⟨[.ref a, .ref J], []⟩) = A.in1 from Around.under_plainId PyProof.Rows.F.plain_set_update_loop _]
    refine wpAny_bind (W.item i s _ _ lt st fun v s2 pv st2 mv => ?_)
    obtain ⟨k, ek, hk⟩ := val i v pv
    have R2 : SetM w s2.heap a L := R0.keep fun o e => mv.heap a o nw e
    refine wpAny_bind (m := holding [v] (setAdd a v)) (wpAny_holding ?_)
    unfold setAdd
    refine wpAny_holding (wpAny_bind ((mixKind P w).pyHash (k := k) hk ?_))
    have room : L.length + 1 < scanBound := by have := cv.len; omega
    refine add_hashed (s := { s2 with toks := s2.toks + 1 }) R2 hk room fun h' b L' sb R3 nx => ?_
    refine wpAny_pure ⟨plainId_quiet PyProof.Rows.F.plain_set_update_loop _, ih (i + 1) _ L' (by omega) lt (W.frame _ s2 _ _ st2 (Nat.le_succ _) fun b hb o z => ?_) R3 (cv.next ek nx) fun s3 L3 m3 R4 c3 => ?_⟩
    · rw [sb.2 b (fun z2 : b = a => ha (z2 ▸ hb))]; exact z
    · refine q s3 L3 (Moved.trans W.gtrans ((mv.mono up).then_heap (Nat.le_succ _) fun b o hb z => ?_) m3) R4 c3
      rw [sb.2 b (fun z2 : b = a => hb (z2 ▸ List.mem_cons_self))]; exact z
end
/-- the set at the heap's end is filled from what is walked -/
def Fills (P : Program) (w : World) (s : Shared) (l : Addr) (items : Array Value) (A : Around) (Rs : Heap → Prop) : Prop :=
  ∀ (R : Result → Shared → Prop) (J : Addr) (G : Array GenState → Array GenState → Prop) (St : Nat → Shared → Prop) (s1 : Shared), WalksS P w A.in1 J [J, l] [J] G items.size (fun i v => items[i]? = some v) St → s.heap.objs.size ∉ [J, l] → s.heap.objs.size < J → St 0 s1 →
    s1.heap.get? s.heap.objs.size = some (bare (!w.params.followText "set-order")) → (∀ b o, s.heap.get? b = some o → s1.heap.get? b = some o) →
    (∀ s', Moved (s.heap.objs.size :: [J]) G s1 s' → Rs s'.heap → R (.ok (.ret .none)) s') → codeAny (model P w) A (.builtin "set.update.loop" ⟨[.ref s.heap.objs.size, .ref J], []⟩) R s1
theorem setM_bare {w : World} {h : Heap} {a : Addr} (g : h.get? a = some (bare (!w.params.followText "set-order"))) : SetM w h a [] :=
  ⟨_, #[], 0, _, ⟨g, ⟨rfl, rfl, rfl⟩, rfl⟩, (fun e he => by simp at he), .refl _, .nil, by decide, by rfl, .nil, by
    show _ ∨ (!w.params.followText "set-order") = true
    cases w.params.followText "set-order" <;> simp⟩
theorem fills_key {P : Program} {w : World} {s : Shared} {l : Addr} {items : Array Value} {A : Around} {ks : List Key} (val : ∀ (i : Nat) (v : Value), items[i]? = some v → ∃ k, ks[i]? = some k ∧ keyIs k v = true) (hk : ks.length = items.size) (few : items.size + 1 < scanBound) :
    Fills P w s l items A fun h' => ∃ L, SetM w h' s.heap.objs.size L ∧ (∀ j, j ∈ L ↔ j ∈ ks) ∧ L.length ≤ ks.length := by
  intro R J G St s1 W nf _ st e0 _ q
  refine fill W s.heap.objs.size nf ks few val (items.size - 0) 0 _ [] (by omega) (Nat.zero_le _) st (setM_bare e0) ⟨fun j => by simp, Nat.le_refl _⟩ fun s' L mv R2 cv => ?_
  exact q s' mv ⟨L, R2, fun j => by rw [cv.mem j, ← hk, List.take_length], by rw [hk]; exact cv.len⟩
section
variable {P : Program} {w : World} {A : Around} {E : Value → Shared → Prop} {s : Shared}
theorem set_of_list {l : Addr} {items : Array Value} {Rs : Heap → Prop} {Q : Value → Shared → Prop} (hh : A.handled = none) (hl : s.heap.IsList l items) (loop : Fills P w s l items A.in1.in1 Rs)
    (q : ∀ (h' : Heap) (tk : Nat), Rs h' → (∀ b o, b < s.heap.objs.size → s.heap.get? b = some o → h'.get? b = some o) → Q (.ref s.heap.objs.size) { s with heap := h', toks := tk }) :
    wpAny (model P w) A (call (.type "set") [.ref l]) Q E s := by
  obtain ⟨c, tl, mr⟩ := PySem.F.called_set.mro
  have mk0 := PySem.F.called_set.made
  have sb0 := PySem.F.called_set.sub
  refine wpAny_call (codeAny_of_tree (show wpAny _ _ (callAny (.type "set") _) _ _ _ from ?_))
  refine wpAny_pure ⟨Code.quiet_builtin _ (by decide +kernel), codeAny_builtin PySem.F.entry_type_call ?_⟩
  rw [Around.under_plain (weight_type_call_type "set" [.ref l] []) rfl]
  have h1 := PySem.F.called_set.notType
  have h2 := PySem.F.called_set.canCreate
  have tc0 := PySem.F.typeCall_set_1 (.ref l)
  repeat (any_goals (first | assumption | wp_step))
  refine codeAny_mono (led_new (.ref l) (E := E) (Q := fun ob s₁ => ob = .ref s.heap.objs.size ∧ s₁ = { s with heap := s.heap.push (bare (!w.params.followText "set-order")) }) ⟨rfl, rfl⟩) fun r s₁ hr => ?_
  cases r with
  | error e => exact hr
  | ok fl =>
    cases fl with
    | ret ob =>
      obtain ⟨rfl, rfl⟩ := hr
      generalize eled : (!w.params.followText "set-order") = led at *
      have zS : (s.heap.push (bare led)).get? s.heap.objs.size = some (bare led) := Heap.get?_push_size _ rfl
      have zT : Shared.TypeIs { s with heap := s.heap.push (bare led) } (.ref s.heap.objs.size) "set" := ⟨_, zS, rfl⟩
      have ini := PySem.F.called_set.init.lookup
      have bnd := PySem.F.called_set.init.bind (.ref s.heap.objs.size)
      repeat (any_goals (first | assumption | wp_step))
      refine codeAny_mono (codeAny_call_builtin (R := wants (fun r t2 => r = .none ∧ ∃ h' tk, t2 = { s with heap := h', toks := tk } ∧ Rs h' ∧
          (∀ b o, b < s.heap.objs.size → s.heap.get? b = some o → h'.get? b = some o)) E) PySem.F.called_set.init.plain PySem.F.entry_set_init (check_set_init_1 zT ?_)) fun r2 t2 z₂ => ?_
      · obtain ⟨obL, atL, clL, nL, dtL⟩ := hl
        obtain ⟨k1, k2, k3, k4⟩ := obL
        simp only at clL dtL
        subst clL; subst dtL
        have atL2 : (s.heap.push (bare led)).get? l = some { cls := .type "list", dict := k2, data := .seq items nL, slots := k4 } := Heap.get?_push_of_some _ atL
        have sub1 := PySem.F.sub_list_set
        have sub2 := PySem.F.sub_list_frozenset
        have dne : (Value.type "list" == Value.type "dict") = false := by decide
        have lst1 : (s.heap.push (bare led)).IsList l items := ⟨_, atL2, rfl, nL, rfl⟩
        unfold Builtin.«set.__init__» noKeywords Builtin.Frozenset.updateFrom
        generalize hide : pyIter = IT
        wp_walk
        subst hide
        refine wpAny_pyIter_list lst1 ?_
        refine wpAny_bind (wpAny_runValue ?_)
        have ltS : l < s.heap.objs.size := Heap.lt_size atL
        have calm3 : A.in1.in1.in1.handled = none := by simp [hh]
        have apart : l ≠ (s.heap.push (bare led)).objs.size := by
          rw [Heap.size_push]; exact Nat.ne_of_lt (Nat.lt_succ_of_lt ltS)
        have nofp : s.heap.objs.size ∉ [(s.heap.push (bare led)).objs.size, l] := by
          rw [Heap.size_push]; simp only [List.mem_cons, List.mem_singleton, List.not_mem_nil, or_false, not_or]
          exact ⟨Nat.ne_of_lt (Nat.lt_succ_self _), Nat.ne_of_gt ltS⟩
        refine loop _ _ _ _ _ ((Walks.list calm3 _ l apart items).toS) nofp (by rw [Heap.size_push]; exact Nat.lt_succ_self _) ⟨⟨_, Heap.get?_push_size _ rfl, rfl, rfl⟩, (lst1.push _)⟩ (Heap.get?_push_of_some _ (zS.trans (congrArg (fun b => some (bare b)) eled.symm))) (fun b o e => Heap.get?_push_of_some _ (Heap.get?_push_of_some _ e)) ?c2
        case c2 =>
          intro s' mv R2
          obtain ⟨h', g', d', tk', os'⟩ := s'
          have qg : g' = s.gens := mv.gens
          have qd : d' = s.drawn := mv.drawn
          have qo : os' = s.os := mv.os
          subst qg; subst qd; subst qo
          show wpAny _ _ _ _ _ _
          refine wpAny_pure ?_
          show wpAny _ _ (ret Value.none) _ _ _
          refine wpAny_pure ⟨rfl, h', tk', rfl, R2, fun b o hb e => ?_⟩
          have ne1 : b ≠ s.heap.objs.size := Nat.ne_of_lt hb
          have ne2 : b ≠ (s.heap.push (bare led)).objs.size := by
            rw [Heap.size_push]; exact Nat.ne_of_lt (Nat.lt_succ_of_lt hb)
          exact mv.heap b o (by simp only [List.mem_cons, List.mem_singleton, List.not_mem_nil, or_false, not_or]; exact ⟨ne1, ne2⟩) (Heap.get?_push_of_some _ (Heap.get?_push_of_some _ e))
      · cases r2 with
        | error e => exact z₂
        | ok fl₂ =>
          cases fl₂ with
          | ret r =>
            obtain ⟨rfl, h', tk, rfl, R2, kk⟩ := z₂
            repeat (any_goals (first | assumption | wp_step))
            exact q _ _ R2 kk
          | _ => exact z₂.elim
    | _ => exact hr.elim
theorem set_of_tuple {l : Addr} {items : Array Value} {Rs : Heap → Prop} {Q : Value → Shared → Prop} (hh : A.handled = none) (hl : s.heap.IsTuple l items) (loop : Fills P w s l items A.in1.in1 Rs)
    (q : ∀ (h' : Heap) (tk : Nat), Rs h' → (∀ b o, b < s.heap.objs.size → s.heap.get? b = some o → h'.get? b = some o) → Q (.ref s.heap.objs.size) { s with heap := h', toks := tk }) :
    wpAny (model P w) A (call (.type "set") [.ref l]) Q E s := by
  obtain ⟨c, tl, mr⟩ := PySem.F.called_set.mro
  have mk0 := PySem.F.called_set.made
  have sb0 := PySem.F.called_set.sub
  refine wpAny_call (codeAny_of_tree (show wpAny _ _ (callAny (.type "set") _) _ _ _ from ?_))
  refine wpAny_pure ⟨Code.quiet_builtin _ (by decide +kernel), codeAny_builtin PySem.F.entry_type_call ?_⟩
  rw [Around.under_plain (weight_type_call_type "set" [.ref l] []) rfl]
  have h1 := PySem.F.called_set.notType
  have h2 := PySem.F.called_set.canCreate
  have tc0 := PySem.F.typeCall_set_1 (.ref l)
  repeat (any_goals (first | assumption | wp_step))
  refine codeAny_mono (led_new (.ref l) (E := E) (Q := fun ob s₁ => ob = .ref s.heap.objs.size ∧ s₁ = { s with heap := s.heap.push (bare (!w.params.followText "set-order")) }) ⟨rfl, rfl⟩) fun r s₁ hr => ?_
  cases r with
  | error e => exact hr
  | ok fl =>
    cases fl with
    | ret ob =>
      obtain ⟨rfl, rfl⟩ := hr
      generalize eled : (!w.params.followText "set-order") = led at *
      have zS : (s.heap.push (bare led)).get? s.heap.objs.size = some (bare led) := Heap.get?_push_size _ rfl
      have zT : Shared.TypeIs { s with heap := s.heap.push (bare led) } (.ref s.heap.objs.size) "set" := ⟨_, zS, rfl⟩
      have ini := PySem.F.called_set.init.lookup
      have bnd := PySem.F.called_set.init.bind (.ref s.heap.objs.size)
      repeat (any_goals (first | assumption | wp_step))
      refine codeAny_mono (codeAny_call_builtin (R := wants (fun r t2 => r = .none ∧ ∃ h' tk, t2 = { s with heap := h', toks := tk } ∧ Rs h' ∧
          (∀ b o, b < s.heap.objs.size → s.heap.get? b = some o → h'.get? b = some o)) E) PySem.F.called_set.init.plain PySem.F.entry_set_init (check_set_init_1 zT ?_)) fun r2 t2 z₂ => ?_
      · obtain ⟨obL, atL, clL, nL, dtL⟩ := hl
        obtain ⟨k1, k2, k3, k4⟩ := obL
        simp only at clL dtL
        subst clL; subst dtL
        have atL2 : (s.heap.push (bare led)).get? l = some { cls := .type "tuple", dict := k2, data := .seq items nL, slots := k4 } := Heap.get?_push_of_some _ atL
        have sub1 := PySem.F.sub_tuple_set
        have sub2 := PySem.F.sub_tuple_frozenset
        have dne : (Value.type "tuple" == Value.type "dict") = false := by decide
        have lst1 : (s.heap.push (bare led)).IsTuple l items := ⟨_, atL2, rfl, nL, rfl⟩
        unfold Builtin.«set.__init__» noKeywords Builtin.Frozenset.updateFrom
        generalize hide : pyIter = IT
        wp_walk
        subst hide
        refine wpAny_pyIter_tuple lst1 ?_
        refine wpAny_bind (wpAny_runValue ?_)
        have ltS : l < s.heap.objs.size := Heap.lt_size atL
        have calm3 : A.in1.in1.in1.handled = none := by simp [hh]
        have apart : l ≠ (s.heap.push (bare led)).objs.size := by
          rw [Heap.size_push]; exact Nat.ne_of_lt (Nat.lt_succ_of_lt ltS)
        have nofp : s.heap.objs.size ∉ [(s.heap.push (bare led)).objs.size, l] := by
          rw [Heap.size_push]; simp only [List.mem_cons, List.mem_singleton, List.not_mem_nil, or_false, not_or]
          exact ⟨Nat.ne_of_lt (Nat.lt_succ_self _), Nat.ne_of_gt ltS⟩
        refine loop _ _ _ _ _ ((Walks.tuple calm3 _ l apart items).toS) nofp (by rw [Heap.size_push]; exact Nat.lt_succ_self _) ⟨⟨_, Heap.get?_push_size _ rfl, rfl, rfl⟩, (lst1.push _)⟩ (Heap.get?_push_of_some _ (zS.trans (congrArg (fun b => some (bare b)) eled.symm))) (fun b o e => Heap.get?_push_of_some _ (Heap.get?_push_of_some _ e)) ?c2
        case c2 =>
          intro s' mv R2
          obtain ⟨h', g', d', tk', os'⟩ := s'
          have qg : g' = s.gens := mv.gens
          have qd : d' = s.drawn := mv.drawn
          have qo : os' = s.os := mv.os
          subst qg; subst qd; subst qo
          show wpAny _ _ _ _ _ _
          refine wpAny_pure ?_
          show wpAny _ _ (ret Value.none) _ _ _
          refine wpAny_pure ⟨rfl, h', tk', rfl, R2, fun b o hb e => ?_⟩
          have ne1 : b ≠ s.heap.objs.size := Nat.ne_of_lt hb
          have ne2 : b ≠ (s.heap.push (bare led)).objs.size := by
            rw [Heap.size_push]; exact Nat.ne_of_lt (Nat.lt_succ_of_lt hb)
          exact mv.heap b o (by simp only [List.mem_cons, List.mem_singleton, List.not_mem_nil, or_false, not_or]; exact ⟨ne1, ne2⟩) (Heap.get?_push_of_some _ (Heap.get?_push_of_some _ e))
      · cases r2 with
        | error e => exact z₂
        | ok fl₂ =>
          cases fl₂ with
          | ret r =>
            obtain ⟨rfl, h', tk, rfl, R2, kk⟩ := z₂
            repeat (any_goals (first | assumption | wp_step))
            exact q _ _ R2 kk
          | _ => exact z₂.elim
    | _ => exact hr.elim
end
end Ss
namespace Ss
open PySem PySem.Spec PyProof.Rows L2 Sw
def SetMO (w : World) (a : Addr) (L : List Key) : HO := .ext fun h => SetM w h a L
section
variable {X : Cx} {pins : List (Addr × Obj)} {σ : L2.St} {H : Hp} {s : Shared} {a : Addr} {L : List Key}
theorem setMO_new {w : World} {P : Program} {H : Hp} {h : Heap} {a : Addr} {L : List Key} (R : SetM w h a L) : ObjOk P w H h a (SetMO w a L) := ⟨R, R.there, fun _ _ p k => SetM.keep p k⟩
theorem setMO_get (I : Inv X pins σ H s) (ha : H a = some (SetMO X.w a L)) : SetM X.w s.heap a L := (I.hok a _ ha).1
theorem vals_key : ∀ {ks : List Key} {us : List Value}, Vals (ks.map kV) us → ks.length = us.length ∧ ∀ (i : Nat) (v : Value), us[i]? = some v → ∃ k, ks[i]? = some k ∧ keyIs k v = true
  | [], _, .nil => ⟨rfl, fun i v e => by simp at e⟩
  | k :: ks, _, .cons h t => by
    obtain ⟨l, g⟩ := vals_key t
    refine ⟨by simp [l], fun i v e => ?_⟩
    cases i with
    | zero =>
      have e := Option.some.inj (by simpa using e)
      subst e
      refine ⟨k, rfl, ?_⟩
      cases k with
      | inl i => obtain ⟨t, rfl⟩ := h; exact keyIs_int i t
      | inr z => obtain ⟨t, rfl⟩ := h; exact keyIs_str z t
    | succ i => exact g i v (by simpa using e)
/-- set(x), x a list or a tuple of ints and texts -/
def rSetM (K : PySem.W.Frag) (w : World) : List V → Hp → VK → Prop := fun xs H Q => ∃ (l : Addr) (ks : List Key), xs = [.ref l] ∧ (SqL K H l (ks.map kV) ∨ SqT K H l (ks.map kV)) ∧ ks.length + 1 < scanBound ∧
  ∀ (p : Addr) (L : List Key), H p = none → (∀ j, j ∈ L ↔ j ∈ ks) → L.length ≤ ks.length → Q (.ref p) (upd H p (SetMO w p L))
theorem cr_setM (hc : X.calm = true) : CallR X (.type "set") (rSetM X.K X.w) := by
  intro pins s σ H xs us Q I r ⟨l, ks, ex, hq, few, q⟩
  subst ex
  rw [Vals.ref1 r]
  have fin : ∀ (h' : Heap) (tk : Nat) (L : List Key), SetM X.w h' s.heap.objs.size L → (∀ j, j ∈ L ↔ j ∈ ks) → L.length ≤ ks.length → (∀ b o, b < s.heap.objs.size → s.heap.get? b = some o → h'.get? b = some o) → EP X pins σ Q (.ref s.heap.objs.size) { s with heap := h', toks := tk } := fun h' tk L R mem len kk =>
    ⟨.ref _, _, I.laid (t' := tk) (fun b o e => kk b o (Heap.lt_size e) e) (Nat.le_refl _) (setMO_new R), rfl, q _ L (I.hok.fresh (Nat.le_refl _)) mem len⟩
  rcases hq with hq | hq
  · obtain ⟨its, rv, pl, hz⟩ := I.list hq
    obtain ⟨hl, val⟩ := vals_key rv
    exact set_of_list (I.ok.hd hc) pl.isList (fills_key (fun i v e => val i v (by simpa using e)) (by simpa using hl) (by simpa [← hl] using few)) fun h' tk ⟨L, R, mem, len⟩ kk => fin h' tk L R mem len kk
  · obtain ⟨its, rv, pl, hz⟩ := I.tuple hq
    obtain ⟨hl, val⟩ := vals_key rv
    exact set_of_tuple (I.ok.hd hc) (show s.heap.IsTuple l its.toArray from pl) (fills_key (fun i v e => val i v (by simpa using e)) (by simpa using hl) (by simpa [← hl] using few)) fun h' tk ⟨L, R, mem, len⟩ kk => fin h' tk L R mem len kk
end
/-! ### sorted -/
def zOf : Value → Str
  | .str z _ => z
  | _ => Str.empty
def nOf : Value → Int
  | .int i _ => i
  | _ => 0
theorem strs_of : ∀ l : List Value, (∀ v ∈ l, ∃ z t, v = .str z t) → StrsAre l (l.map zOf)
  | [], _ => .nil
  | v :: l, h => by
    obtain ⟨z, t, rfl⟩ := h v (List.mem_cons_self ..)
    exact .cons z t (strs_of l fun u hu => h u (List.mem_cons_of_mem _ hu))
theorem ints_of' : ∀ l : List Value, (∀ v ∈ l, ∃ z t, v = .int z t) → IntsAre l (l.map nOf)
  | [], _ => .nil
  | v :: l, h => by
    obtain ⟨z, t, rfl⟩ := h v (List.mem_cons_self ..)
    exact .cons z t (ints_of' l fun u hu => h u (List.mem_cons_of_mem _ hu))
section
variable {P : Program} {w : World} {A : Around} {E : Value → Shared → Prop} {s : Shared} {a : Addr} {L : List Key}
theorem str_of_key {k : Key} {v : Value} {z : Str} (h : keyIs k v = true) (e : k = .inr z) : ∃ t, v = .str z t := by
  subst e
  rcases keyIs_shape h with ⟨i, t, q, _⟩ | ⟨y, t, q, rfl⟩
  · cases q
  · cases q; exact ⟨t, rfl⟩
theorem int_of_key {k : Key} {v : Value} {z : Int} (h : keyIs k v = true) (e : k = .inl z) : ∃ t, v = .int z t := by
  subst e
  rcases keyIs_shape h with ⟨i, t, q, rfl⟩ | ⟨y, t, q, _⟩
  · cases q; exact ⟨t, rfl⟩
  · cases q
theorem ent_strs {es : List (Int × Value)} {vs : List Value} {L : List Key} (ent : ∀ e ∈ es, Ent w e) (pm : L.Perm (es.map kyOf)) (pv : vs.Perm (es.map (·.2))) (hs : ∀ k ∈ L, ∃ z : Str, k = .inr z) :
    (∀ v ∈ vs, ∃ z t, v = Value.str z t) ∧ ((vs.map zOf).map (Sum.inr : Str → Key)).Perm L := by
  have one : ∀ e ∈ es, ∃ z t, e.2 = Value.str z t ∧ kyOf e = .inr z := fun e he => by
    obtain ⟨z, ez⟩ := hs _ (pm.mem_iff.mpr (List.mem_map_of_mem he))
    obtain ⟨t, et⟩ := str_of_key (ent e he).1 ez
    exact ⟨z, t, et, ez⟩
  refine ⟨fun v hv => ?_, ?_⟩
  · obtain ⟨e, he, rfl⟩ := List.mem_map.mp (pv.mem_iff.mp hv)
    obtain ⟨z, t, e1, _⟩ := one e he
    exact ⟨z, t, e1⟩
  · refine ((pv.map zOf).map _).trans (List.Perm.trans (.of_eq ?_) pm.symm)
    rw [List.map_map, List.map_map]
    refine List.map_congr_left fun e he => ?_
    obtain ⟨z, t, e1, e2⟩ := one e he
    show Sum.inr (zOf e.2) = _
    rw [e1, e2]; rfl
theorem ent_ints {es : List (Int × Value)} {vs : List Value} {L : List Key} (ent : ∀ e ∈ es, Ent w e) (pm : L.Perm (es.map kyOf)) (pv : vs.Perm (es.map (·.2))) (hs : ∀ k ∈ L, ∃ z : Int, k = .inl z) :
    (∀ v ∈ vs, ∃ z t, v = Value.int z t) ∧ ((vs.map nOf).map (Sum.inl : Int → Key)).Perm L := by
  have one : ∀ e ∈ es, ∃ z t, e.2 = Value.int z t ∧ kyOf e = .inl z := fun e he => by
    obtain ⟨z, ez⟩ := hs _ (pm.mem_iff.mpr (List.mem_map_of_mem he))
    obtain ⟨t, et⟩ := int_of_key (ent e he).1 ez
    exact ⟨z, t, et, ez⟩
  refine ⟨fun v hv => ?_, ?_⟩
  · obtain ⟨e, he, rfl⟩ := List.mem_map.mp (pv.mem_iff.mp hv)
    obtain ⟨z, t, e1, _⟩ := one e he
    exact ⟨z, t, e1⟩
  · refine ((pv.map nOf).map _).trans (List.Perm.trans (.of_eq ?_) pm.symm)
    rw [List.map_map, List.map_map]
    refine List.map_congr_left fun e he => ?_
    obtain ⟨z, t, e1, e2⟩ := one e he
    show Sum.inl (nOf e.2) = _
    rw [e1, e2]; rfl
theorem nodup_of_map {α β : Type} (f : α → β) {l : List α} (h : (l.map f).Nodup) : l.Nodup := List.Pairwise.of_map f (fun _ _ n e => n (congrArg f e)) h
theorem sorted_str {xs : List Str} (R : SetM w s.heap a L) (hh : A.handled = none) (all : ∀ k, k ∈ L ↔ k ∈ xs.map Sum.inr) {Q : Value → Shared → Prop}
    (q : ∀ (s2 : Shared) (p : Addr) (out : List Value) (c : Nat) (ys : List Str), (∀ b o, s.heap.get? b = some o → s2.heap.get? b = some o) → s.heap.objs.size ≤ p → s2.gens = s.gens → s2.os = s.os → s2.heap.get? p = some (seqObj "list" out.toArray c) →
      StrsAre out ys → sortedS ys = true → ys.Nodup → (∀ z, z ∈ ys ↔ z ∈ xs) → out.length ≤ sizeLine → Q (.ref p) s2) : wpAny (model P w) A (call (.builtin "sorted") [.ref a]) Q E s := by
  obtain ⟨o, es, ep, t, ⟨g, ex, d⟩, ent, pm, nd, few, fit, ris, led⟩ := R
  have zs : es.size = L.length := by rw [pm.length_eq, List.length_map, Array.length_toList]
  refine Calls.call_function_entry kind_sorted plain_sorted entry_sorted (args_sorted1 _) ?_
  unfold Builtin.«sorted»
  refine wpAny_bind (m := checkCount "sorted" 1 1 _) (wpAny_pure ?_)
  refine wpAny_bind (collect_set (A := A.in1) hh ⟨o, g, ex.1, d⟩ fit (by omega) ris led fun s1 vs k1 z1 g1 o1 p1 => ?_)
  have lv : vs.length = L.length := by rw [p1.length_eq, List.length_map, Array.length_toList, zs]
  have lz : vs.length ≤ sizeLine := by rw [lv]; exact fits_of_scanBound few
  obtain ⟨each, pk⟩ := ent_strs ent pm p1 fun k hk => by
    obtain ⟨z, _, rfl⟩ := List.mem_map.mp ((all k).mp hk)
    exact ⟨z, rfl⟩
  have are := strs_of vs each
  refine wpAny_bind (wpAny_newList ?_ lz)
  have at1 : (s1.heap.push (seqObj "list" vs.toArray 0)).get? s1.heap.objs.size = some (seqObj "list" vs.toArray 0) := Heap.get?_push_size _ rfl
  refine wpAny_bind (wpAny_holding (wpAny_call_entry slot_list_sort ⟨_, at1, rfl⟩ entry_list_sort (list_sort_treeKAny strKind_oneLt at1 are.keysOf (fun v₁ v₂ rest e => keyKind_strs (by rw [← e]; exact are)) lz fun st hp hs => ⟨_, rfl, ?_⟩) (args_list_sort _)))
  obtain ⟨ys, a1, a2, a3⟩ := sorted_out_str are hp hs
  generalize (arrOf st).map (·.2) = out at a1 ⊢
  obtain ⟨c, hc⟩ := sortedHeap_at (vs := vs) (out := out) at1
  have lo : out.toList.length ≤ sizeLine := by rw [a1.length, a2.length_eq, List.length_map]; exact lz
  refine wpAny_pure ⟨_, rfl, q _ s1.heap.objs.size out.toList c ys (fun b u e => ?_) z1 g1 o1 (by rw [Array.toArray_toList]; exact hc) a1 a3 ?_ (fun z => ?_) lo⟩
  · have e1 := k1 b u e
    have lt := Heap.lt_size e1
    show (sortedHeap (s1.heap.push (seqObj "list" vs.toArray 0)) s1.heap.objs.size vs out).get? b = some u
    rw [sortedHeap_old (Nat.ne_of_lt lt) (by rw [Heap.size_push]; exact Nat.lt_succ_of_lt lt)]
    exact Heap.get?_push_of_some _ e1
  · exact a2.nodup_iff.mpr (nodup_of_map _ (pk.nodup_iff.mpr nd))
  · rw [a2.mem_iff]
    have e1 : Sum.inr z ∈ (vs.map zOf).map (Sum.inr : Str → Key) ↔ z ∈ vs.map zOf := ⟨fun h => by
      obtain ⟨y, hy, e⟩ := List.mem_map.mp h
      cases e; exact hy, fun h => List.mem_map_of_mem h⟩
    have e2 : Sum.inr z ∈ xs.map (Sum.inr : Str → Key) ↔ z ∈ xs := ⟨fun h => by
      obtain ⟨y, hy, e⟩ := List.mem_map.mp h
      cases e; exact hy, fun h => List.mem_map_of_mem h⟩
    rw [← e1, pk.mem_iff, all, e2]
theorem sorted_int {xs : List Int} (R : SetM w s.heap a L) (hh : A.handled = none) (all : ∀ k, k ∈ L ↔ k ∈ xs.map Sum.inl) {Q : Value → Shared → Prop}
    (q : ∀ (s2 : Shared) (p : Addr) (out : List Value) (c : Nat) (ys : List Int), (∀ b o, s.heap.get? b = some o → s2.heap.get? b = some o) → s.heap.objs.size ≤ p → s2.gens = s.gens → s2.os = s.os → s2.heap.get? p = some (seqObj "list" out.toArray c) →
      IntsAre out ys → ys.Pairwise (· ≤ ·) → ys.Nodup → (∀ z, z ∈ ys ↔ z ∈ xs) → out.length ≤ sizeLine → Q (.ref p) s2) : wpAny (model P w) A (call (.builtin "sorted") [.ref a]) Q E s := by
  obtain ⟨o, es, ep, t, ⟨g, ex, d⟩, ent, pm, nd, few, fit, ris, led⟩ := R
  have zs : es.size = L.length := by rw [pm.length_eq, List.length_map, Array.length_toList]
  refine Calls.call_function_entry kind_sorted plain_sorted entry_sorted (args_sorted1 _) ?_
  unfold Builtin.«sorted»
  refine wpAny_bind (m := checkCount "sorted" 1 1 _) (wpAny_pure ?_)
  refine wpAny_bind (collect_set (A := A.in1) hh ⟨o, g, ex.1, d⟩ fit (by omega) ris led fun s1 vs k1 z1 g1 o1 p1 => ?_)
  have lv : vs.length = L.length := by rw [p1.length_eq, List.length_map, Array.length_toList, zs]
  have lz : vs.length ≤ sizeLine := by rw [lv]; exact fits_of_scanBound few
  obtain ⟨each, pk⟩ := ent_ints ent pm p1 fun k hk => by
    obtain ⟨z, _, rfl⟩ := List.mem_map.mp ((all k).mp hk)
    exact ⟨z, rfl⟩
  have are := ints_of' vs each
  refine wpAny_bind (wpAny_newList ?_ lz)
  have at1 : (s1.heap.push (seqObj "list" vs.toArray 0)).get? s1.heap.objs.size = some (seqObj "list" vs.toArray 0) := Heap.get?_push_size _ rfl
  refine wpAny_bind (wpAny_holding (wpAny_call_entry slot_list_sort ⟨_, at1, rfl⟩ entry_list_sort (list_sort_treeAny at1 are lz fun out ys a1 a2 a3 => ⟨_, rfl, ?_⟩) (args_list_sort _)))

  obtain ⟨c, hc⟩ := sortedHeap_at (vs := vs) (out := out) at1
  have lo : out.toList.length ≤ sizeLine := by rw [a1.length, a2.length_eq, List.length_map]; exact lz
  refine wpAny_pure ⟨_, rfl, q _ s1.heap.objs.size out.toList c ys (fun b u e => ?_) z1 g1 o1 (by rw [Array.toArray_toList]; exact hc) a1 a3 ?_ (fun z => ?_) lo⟩
  · have e1 := k1 b u e
    have lt := Heap.lt_size e1
    show (sortedHeap (s1.heap.push (seqObj "list" vs.toArray 0)) s1.heap.objs.size vs out).get? b = some u
    rw [sortedHeap_old (Nat.ne_of_lt lt) (by rw [Heap.size_push]; exact Nat.lt_succ_of_lt lt)]
    exact Heap.get?_push_of_some _ e1
  · exact a2.nodup_iff.mpr (nodup_of_map _ (pk.nodup_iff.mpr nd))
  · rw [a2.mem_iff]
    have e1 : Sum.inl z ∈ (vs.map nOf).map (Sum.inl : Int → Key) ↔ z ∈ vs.map nOf := ⟨fun h => by
      obtain ⟨y, hy, e⟩ := List.mem_map.mp h
      cases e; exact hy, fun h => List.mem_map_of_mem h⟩
    have e2 : Sum.inl z ∈ xs.map (Sum.inl : Int → Key) ↔ z ∈ xs := ⟨fun h => by
      obtain ⟨y, hy, e⟩ := List.mem_map.mp h
      cases e; exact hy, fun h => List.mem_map_of_mem h⟩
    rw [← e1, pk.mem_iff, all, e2]
end
section
variable {X : Cx}
/-- sorted(a set), its members texts or ints -/
def rSortM (w : World) : List V → Hp → VK → Prop := fun vs H Q => ∃ (a : Addr) (L : List Key), vs = [V.ref a] ∧ H a = some (SetMO w a L) ∧
  ((∃ xs : List Str, (∀ k, k ∈ L ↔ k ∈ xs.map Sum.inr) ∧ ∀ (ys : List Str) (p : Addr), sortedS ys = true → ys.Nodup → (∀ z, z ∈ ys ↔ z ∈ xs) → H p = none → Q (.ref p) (upd H p (.lst (ys.map V.str)))) ∨
   (∃ xs : List Int, (∀ k, k ∈ L ↔ k ∈ xs.map Sum.inl) ∧ ∀ (ys : List Int) (p : Addr), ys.Pairwise (· ≤ ·) → ys.Nodup → (∀ z, z ∈ ys ↔ z ∈ xs) → H p = none → Q (.ref p) (upd H p (.lst (ys.map V.int)))))
theorem cr_sortM (hc : X.calm = true) : CallR X (.builtin "sorted") (rSortM X.w) := by
  intro pins s σ H vs us Q I r ⟨a, L, ev, ha, h⟩
  subst ev
  rw [Vals.ref1 r]
  have R := setMO_get I ha
  have fin : ∀ (s2 : Shared) (p : Addr) (out : List Value) (c : Nat) (ws : List V), (∀ b o, s.heap.get? b = some o → s2.heap.get? b = some o) → s.heap.objs.size ≤ p → s2.gens = s.gens → s2.os = s.os → s2.heap.get? p = some (seqObj "list" out.toArray c) → Vals ws out → out.length ≤ sizeLine →
      (H p = none → Q (.ref p) (upd H p (.lst ws))) → EP X pins σ Q (.ref p) s2 := fun s2 p out c ws k hp g o hg hv lz q => by
    have hn : H p = none := I.hok.fresh hp
    have J : Inv X pins σ (upd H p (.lst ws)) { s with heap := s2.heap, gens := s2.gens, drawn := s2.drawn, toks := s2.toks } :=
      I.call (ch := []) (Un.laid k hp hn) (I.hok.laid k hp ⟨by rw [Paired.length hv]; exact lz, out, c, hv, hg⟩) (by rw [g]; exact I.bare) (fun _ z => nomatch z)
    have e : s2 = { s with heap := s2.heap, gens := s2.gens, drawn := s2.drawn, toks := s2.toks } := by
      obtain ⟨_, _, _, _, _⟩ := s2
      obtain ⟨_, _, _, _, _⟩ := s
      cases o
      rfl
    rw [e]
    exact ⟨.ref p, _, J, rfl, q hn⟩
  rcases h with ⟨xs, all, q⟩ | ⟨xs, all, q⟩
  · exact sorted_str R (I.ok.hd hc) all fun s2 p out c ys k hp g o hg hi hs nd mem lz => fin s2 p out c _ k hp g o hg (vals_of_strs hi) lz fun hn => q ys p hs nd mem hn
  · exact sorted_int R (I.ok.hd hc) all fun s2 p out c ys k hp g o hg hi hs nd mem lz => fin s2 p out c _ k hp g o hg (vals_of_ints hi) lz fun hn => q ys p hs nd mem hn
end
end Ss
namespace Ss
open PySem PySem.Spec PyProof.Rows L2 Sw
section
variable {X : Cx} {pl : List (Addr × Obj)} {σ : L2.St} {H H' : Hp} {s : Shared}
/-- the set at D takes y -/
def SPut (w : World) (H : Hp) (D : Addr) (y : V) (H' : Hp) : Prop := ∃ (L : List Key) (k : Key), y = kV k ∧ H D = some (SetMO w D L) ∧ L.length + 1 < scanBound ∧ ∃ L', Ins L k L' ∧ H' = upd H D (SetMO w D L')
theorem sput_ok {E : Value → Shared → Prop} {D : Addr} {y : V} {u : Value} {Q : Value → Shared → Prop} (J : Inv X pl σ H s) (ry : RelV y u) (p : ∃ (L : List Key) (k : Key), y = kV k ∧ H D = some (SetMO X.w D L) ∧ L.length + 1 < scanBound ∧ ∀ L', Ins L k L' → ∀ s', Inv X pl σ (upd H D (SetMO X.w D L')) s' → Q .none s') :
    wpAny (model X.prog X.w) X.A (call (.builtin "set.add") [.ref D, u]) Q E s := by
  obtain ⟨L, k, rfl, at_, room, q⟩ := p
  have R := setMO_get J at_
  have ki : keyIs k u = true := kV_is (P := X.prog) (w := X.w) ry
  have ty : s.TypeIs (.ref D) "set" := by
    obtain ⟨o, _, _, _, ⟨g1, g2, _⟩, _⟩ := R
    exact ⟨o, g1, g2.1⟩
  refine wpAny_call_entry PySem.F.slot_set_add ty PySem.F.entry_set_add ?_ (PySem.F.args_set_add_2 _ _)
  unfold Builtin.«set.add» Builtin.Frozenset.oneOther
  simp only [List.isEmpty_nil, bind_assoc]
  unfold Builtin.Frozenset.addrOf setAdd
  refine wpAny_bind (wpAny_pure ?_)
  try dsimp only
  refine wpAny_bind (wpAny_pure ?_)
  try dsimp only
  refine wpAny_bind (wpAny_holding (wpAny_bind ((mixKind X.prog X.w).pyHash (k := k) ki ?_)))
  refine add_hashed (s := { s with toks := s.toks + 1 }) R ki room fun h' b L' sb R3 nx => ?_
  show wpAny _ _ (ret Value.none) _ _ _
  exact wpAny_pure ⟨_, rfl, q L' nx _ (J.write (e := D) (t' := s.toks + 1) (by rw [at_]; trivial) (.inl rfl) (fun b u hb hu => (sb.2 b hb).trans hu) R3.there (setMO_new R3))⟩
/-- {e for target in iter if ..} by its turns -/
def tScP (w : World) (wi : TI) (g : TG) (tt : TT) (te : TE) (vs : List Nat) : TE := fun σ H Q => wi σ H fun J H1 => ∀ D, H1 D = none → ∃ (n : Nat) (Pv : Nat → Hp → Prop), Pv 0 (upd H1 D (SetMO w D [])) ∧ (∀ G, Pv n G → J.stop n G ∧ Q (.ref D) G) ∧
  ∀ i G, i < n → Pv i G → J.go i G ∧ ∀ x G1, J.yld i G x G1 → g x (wipe σ vs) G1 fun σ2 G2 => wipe σ2 vs = wipe σ vs ∧ tt σ2 G2 fun b G3 => if b = true then te σ2 G3 fun y G4 => ∃ (L : List Key) (k : Key), y = kV k ∧ G4 D = some (SetMO w D L) ∧ L.length + 1 < scanBound ∧ ∀ L', Ins L k L' → Pv (i + 1) (upd G4 D (SetMO w D L')) else Pv (i + 1) G3
theorem pe_scP {ex tg iter : Expr} {ifs : List Expr} {sc : Scope} {own : List (Str × Nat)} {pos : Pos} {wi : TI} {g : TG} {tt : TT} {te : TE} (hc : X.calm = true) (hN : X.N.Nodup) (hi : PI X tg iter wi) (ok : BlkOk X.N X.env.scope sc own)
    (hg : ∀ (s : Shared) (H : Hp) (C : Addr) (cl : List (Str × Addr)) (fp : List Addr), PG (X.blk s H sc (compEnvC sc cl C X.env) fp) tg g) (ht : ∀ (s : Shared) (H : Hp) (C : Addr) (cl : List (Str × Addr)) (fp : List Addr), PTs (X.blk s H sc (compEnvC sc cl C X.env) fp) ifs tt)
    (he : ∀ (s : Shared) (H : Hp) (C : Addr) (cl : List (Str × Addr)) (fp : List Addr), PE (X.blk s H sc (compEnvC sc cl C X.env) fp) ex te) (hs : ∀ x, foldedSetIterable iter X.env x = pure x := by intro _; rfl) :
    PE X (.SetComp ex [⟨tg, iter, ifs, 0⟩] sc pos) (tScP X.w wi g tt te (own.map (·.2))) := by
  constructor
  intro pl s σ H Q I h
  rw [PpSet.eval_SetComp]
  have clo : closureFor sc X.env = pure (cloFrom X.env.cells sc.names []) := closure_ok fun y hy e => I.ok.has _ ((ok.free y hy e).imp id id)
  refine wpAny_comprehension_free (use := none) rfl hs clo ok.kind (fun y hy e => (ok.uniq y hy).trans (by rw [e])) ?_
  refine thn (hi.run pl s σ H _ I h) fun _ s1 q1 => thn q1 ?_
  rintro _ s2 ⟨it, fp, tn, J, H2, rfl, I2, T, t2, f2, h2⟩
  refine PpSet.newSet_ok ?_
  refine newEnv_comp ?_
  -- the new dict is tracked
  have new := I2.hok.fresh (Nat.le_refl s2.heap.objs.size)
  obtain ⟨n, Pv, p0, pEnd, pTurn⟩ := h2 _ new
  have I3 : Inv X pl σ (upd H2 s2.heap.objs.size (SetMO X.w s2.heap.objs.size [])) { s2 with heap := s2.heap.push (bare (!X.w.params.followText "set-order")) } := I2.laid (t' := s2.toks) (fun _ _ z => Heap.get?_push_of_some _ z) (Nat.le_refl _) (setMO_new setM_void)
  have fpOld : ∀ b ∈ fp, b < s2.heap.objs.size := fun b hb => let ⟨_, e, _⟩ := T.obj _ _ t2 b hb; Heap.lt_size e
  have fpFree : ∀ b ∈ fp, upd H2 s2.heap.objs.size (SetMO X.w s2.heap.objs.size []) b = none := fun b hb => (upd_ne (Nat.ne_of_lt (fpOld b hb))).trans (f2 b hb).1
  generalize hs3 : ({ s2 with heap := s2.heap.push (bare (!X.w.params.followText "set-order")) } : Shared) = s3 at I3
  have old3 : ∀ b o, s2.heap.get? b = some o → s3.heap.get? b = some o := fun b o z => by rw [← hs3]; exact Heap.get?_push_of_some _ z
  have f3 : ∀ b ∈ fp, FpOk X pl (upd H2 s2.heap.objs.size (SetMO X.w s2.heap.objs.size [])) b ∧ b < s3.heap.objs.size := fun b hb => ⟨⟨fpFree b hb, (f2 b hb).2⟩, let ⟨o, e, _⟩ := T.obj _ _ t2 b hb; Heap.lt_size (old3 b o e)⟩
  have I4 := block_start (own := own) I3 ok hN f3
  generalize hD : s2.heap.objs.size = D at *
  generalize hB : upd H2 D (SetMO X.w D []) = HB at *
  show codeAny _ _ (.compStart (.SetComp ex [⟨tg, iter, ifs, 0⟩] sc pos) 0 (.ref it) (.ref D) (compEnvC sc (cellsFrom (s3.heap.objs.size + 1) sc.names (cloFrom X.env.cells sc.names [])) s3.heap.objs.size X.env)) (compPost (model X.prog X.w) X.A X.xe none (EP X pl σ Q) (.ref D) s3.heap.objs.size) { s3 with heap := pushCells (s3.heap.push { cls := .type "dict", data := .dict #[] }) sc.names }
  have rg := hg s3 HB s3.heap.objs.size (cellsFrom (s3.heap.objs.size + 1) sc.names (cloFrom X.env.cells sc.names [])) fp
  have rt := ht s3 HB s3.heap.objs.size (cellsFrom (s3.heap.objs.size + 1) sc.names (cloFrom X.env.cells sc.names [])) fp
  have rv := he s3 HB s3.heap.objs.size (cellsFrom (s3.heap.objs.size + 1) sc.names (cloFrom X.env.cells sc.names [])) fp
  have locs : (compEnvC sc (cellsFrom (s3.heap.objs.size + 1) sc.names (cloFrom X.env.cells sc.names [])) s3.heap.objs.size X.env).locals = s3.heap.objs.size := rfl
  generalize compEnvC sc (cellsFrom (s3.heap.objs.size + 1) sc.names (cloFrom X.env.cells sc.names [])) s3.heap.objs.size X.env = en at I4 rg rt rv locs ⊢
  generalize hs4 : ({ s3 with heap := pushCells (s3.heap.push { cls := .type "dict", data := .dict #[] }) sc.names } : Shared) = s4 at I4 ⊢
  have t4 : tn 0 s4.heap := T.keep _ _ _ t2 fun b _ o z => by rw [← hs4]; exact pushCells_keeps _ _ _ _ (Heap.get?_push_of_some _ (old3 b o z))
  have inFp : ∀ {τ : L2.St} {G : Hp} {s' : Shared}, Inv (X.blk s3 HB sc en fp) [] τ G s' → (∀ b ∈ fp, G b = none) → ∀ b ∈ fp, FpOk (X.blk s3 HB sc en fp) [] G b := fun {τ G s'} K z b hb =>
    ⟨z b hb, (K.ok.exf b hb).1, K.ok.exfs b hb, .inl hb, fun x c => (K.ok.exf b hb).2 x c, fun q hq => by cases hq⟩
  -- the loop
  have lp : codeAny (model X.prog X.w) X.A (.compLoop (.SetComp ex [⟨tg, iter, ifs, 0⟩] sc pos) 0 (.ref it) (.ref D) en) (compPost (model X.prog X.w) X.A X.xe none (EP X pl σ Q) (.ref D) s3.heap.objs.size) s4 := by
    refine PpSet.compLoopS_any (fun m s' => ∃ i G, m = n - i ∧ i ≤ n ∧ Inv (X.blk s3 HB sc en fp) [] (wipe σ (own.map (·.2))) G s' ∧ tn i s'.heap ∧ (∀ b ∈ fp, G b = none) ∧ Pv i G) ?_ n ⟨0, HB, rfl, Nat.zero_le _, I4, t4, fpFree, p0⟩
    rintro m s5 ⟨i, G, rfl, hle, I5, t5, f5, p5⟩
    by_cases hlt : i < n
    · obtain ⟨go, turn⟩ := pTurn i G hlt p5
      refine thnF (T.item (X.blk s3 HB sc en fp) rfl rfl rfl hc i [] s5 _ G (fun _ _ => False) I5 (inFp I5 f5) t5 go) ?_
      rintro r s6 ⟨u, rfl, h6⟩
      refine thnF h6 ?_
      rintro _ s7 ⟨x, G1, I7, r7, y7, t7, f7⟩
      have I7p := I7.pinned (inFp I7 f7) (T.obj _ _ t7)
      refine thnF (rg.run _ s7 _ G1 x u _ I7p r7 (turn x G1 y7)) ?_
      rintro _ s8 ⟨τ, G2, I8, wp, q8⟩
      refine thnF (rt.run _ s8 τ G2 _ I8 q8) ?_
      -- what ends a turn
      have next : ∀ {s' : Shared} {G' : Hp}, Inv (X.blk s3 HB sc en fp) ([] ++ pinsAt fp s7.heap) τ G' s' → Pv (i + 1) G' → ∃ m, m < n - i ∧ ∃ i G, m = n - i ∧ i ≤ n ∧ Inv (X.blk s3 HB sc en fp) [] (wipe σ (own.map (·.2))) G s' ∧ tn i s'.heap ∧ (∀ b ∈ fp, G b = none) ∧ Pv i G := fun {s' G'} K p => by
        have pin : ∀ b ∈ fp, ∀ o, s7.heap.get? b = some o → s'.heap.get? b = some o ∧ G' b = none := fun b hb o e =>
          have z := K.pin (b, o) (by simp [mem_pinsAt hb e])
          ⟨z.1, z.2.1⟩
        refine ⟨n - (i + 1), by omega, i + 1, G', rfl, hlt, (K.unpinned (pins := [])).weak (by rw [← wp, wipe_length]) (fun j v e => (wipe_some (by rw [wp]; exact e)).1), T.keep _ _ _ t7 fun b hb o e => (pin b hb o e).1, fun b hb => ?_, p⟩
        obtain ⟨o, e, _⟩ := T.obj _ _ t7 b hb
        exact (pin b hb o e).2
      rintro b s9 ⟨G3, I9, q9⟩
      cases b with
      | true =>
        rw [if_pos rfl] at q9 ⊢
        refine thnF (rv.run _ s9 τ G3 _ I9 q9) ?_
        rintro vu s11 ⟨y, G4, I11, ry, L, k, ey, at4, room, p⟩
        exact sput_ok (X := X.blk s3 HB sc en fp) I11 ry ⟨L, k, ey, at4, room, fun L' nx s' I12 => next I12 (p L' nx)⟩
      | false =>
        rw [if_neg Bool.false_ne_true] at q9 ⊢
        exact next I9 q9
    · obtain rfl : i = n := by omega
      obtain ⟨stop, q⟩ := pEnd G p5
      refine thnF (T.done (X.blk s3 HB sc en fp) rfl rfl rfl hc i [] s5 _ G (fun _ _ => False) I5 (inFp I5 f5) t5 stop) ?_
      rintro r s6 ⟨rfl, I6⟩
      have I7 : Inv X pl σ G s6 := I3.call' (ch := fp) I6.os I6.base I6.hok I6.bare fun b hb => by
        obtain ⟨⟨_, a1, _, a3, a4, a5⟩, _⟩ := f3 b hb
        exact ⟨a3, a1, a4, a5⟩
      have gone : G s3.heap.objs.size = none := by rw [← locs]; exact I6.free
      obtain ⟨mm, ns, _⟩ := I6.loc
      have ns : s6.heap.Ns s3.heap.objs.size mm := by rw [← locs]; exact ns
      obtain ⟨b0, b1, _, b3, b4, b5⟩ := I3.fpOk (Nat.le_refl _) gone
      exact ⟨mm, ns, fun g sb => ⟨.ref D, G, I7.turned (t' := s6.toks) (fun b o hb e => (sb.2 b hb).trans e) b0 b1 b3 b4 b5, rfl, q⟩⟩
  exact PpSet.codeAny_compStart_set lp (T.self X.A 0 _ _ _ t4 lp)
end
end Ss
namespace Ss
open PySem PySem.Spec PyProof.Rows L2 Sw
/-! ### sets of tuples of ints and texts, fewer than 64 -/
abbrev IsK (P : Program) (w : World) (h : Heap) (k : List Key) (b : Addr) : Prop := IsTupleKey (mixKind P w) h k b
abbrev kHash (P : Program) (w : World) (k : List Key) : Int := tupleKeyHash (mixKind P w) k
abbrev Row := Addr × List Key
section
variable {P : Program} {w : World} {A : Around} {E : Value → Shared → Prop} {s : Shared}
theorem each_key {k : List Key} {vs : List Value} (h : ItemsAre (mixKind P w) k vs) : ∀ v ∈ vs, ∃ j, keyIs j v = true := by
  induction h with
  | nil => intro v hv; cases hv
  | @cons j v' js us h1 _ ih =>
    intro v hv
    rcases List.mem_cons.mp hv with rfl | hv
    · exact ⟨j, h1⟩
    · exact ih v hv
theorem scal_class {j : Key} {v : Value} (h : keyIs j v = true) (n : Nat) : ofAClassStatement n v = pure false := by
  rcases keyIs_shape h with ⟨i, t, _, rfl⟩ | ⟨z, t, _, rfl⟩ <;> cases n <;> rfl
theorem scal_byVal {j : Key} {v : Value} (h : keyIs j v = true) (n : Nat) : hashByValue n v = pure (plainKind v) := hashByValue_scannable n (is_scan h)
theorem tup_class {k : List Key} {b : Addr} {Q : Bool → Shared → Prop} (hk : IsK P w s.heap k b) (q : Q false s) : wpAny (model P w) A (ofAClassStatement 8 (.ref b)) Q E s := by
  have ty := hk.typeIs
  obtain ⟨o, items, n, g, _, d, its⟩ := hk
  unfold ofAClassStatement
  refine wpAny_bind (wpAny_typeOf ty ?_)
  dsimp only
  rw [if_pos (show (("tuple" : String) == "tuple") = true by decide)]
  try simp only [Bool.not_true, Bool.false_eq_true, if_false]
  refine wpAny_bind (m := seqItems? (.ref b)) (wpAny_seqItems g d ?_)
  dsimp only
  refine wpAny_bind (show wpAny _ _ (forIn items _ _) _ _ s from ?_)
  rw [← Array.forIn_toList]
  refine wpAny_forIn_list _ (fun rest r s' => r.1 = none ∧ s' = s ∧ ∀ v ∈ rest, ∃ j, keyIs j v = true) _ ?_ ?_ _ _ ⟨rfl, rfl, each_key its⟩
  · rintro v rest r s' ⟨hr, rfl, all⟩
    obtain ⟨j, hj⟩ := all v (List.mem_cons_self ..)
    rw [scal_class hj]
    refine wpAny_bind (wpAny_pure ?_)
    simp only [Bool.false_eq_true, if_false]
    exact wpAny_pure ⟨rfl, rfl, fun u hu => all u (List.mem_cons_of_mem _ hu)⟩
  · rintro ⟨r1, r2⟩ s' ⟨hr, rfl, _⟩
    simp only at hr
    subst hr
    exact wpAny_pure q
theorem tup_byVal {k : List Key} {b : Addr} {Q : Bool → Shared → Prop} (hk : IsK P w s.heap k b) (q : ∀ c, Q c s) : wpAny (model P w) A (hashByValue 8 (.ref b)) Q E s := by
  have ty := hk.typeIs
  obtain ⟨o, items, n, g, _, d, its⟩ := hk
  unfold hashByValue
  refine wpAny_bind (wpAny_specialOf ty PySem.F.slot_tuple_hash.lookup ?_)
  refine (show wpAny _ _ (seqItems? (.ref b) >>= _) _ _ s from wpAny_bind (wpAny_seqItems g d ?_))
  refine wpAny_bind (show wpAny _ _ (forIn items _ _) _ _ s from ?_)
  rw [← Array.forIn_toList]
  refine wpAny_forIn_list _ (fun rest r s' => r.1 = none ∧ s' = s ∧ ∀ v ∈ rest, ∃ j, keyIs j v = true) _ ?_ ?_ _ _ ⟨rfl, rfl, each_key its⟩
  · rintro v rest r s' ⟨hr, rfl, all⟩
    obtain ⟨j, hj⟩ := all v (List.mem_cons_self ..)
    rw [scal_byVal hj]
    refine wpAny_bind (wpAny_pure ?_)
    cases plainKind v with
    | true =>
      simp only [Bool.not_true, Bool.false_eq_true, if_false]
      exact wpAny_pure ⟨rfl, rfl, fun u hu => all u (List.mem_cons_of_mem _ hu)⟩
    | false =>
      simp only [Bool.not_false, if_true]
      exact wpAny_pure (wpAny_pure (q false))
  · rintro ⟨r1, r2⟩ s' ⟨hr, rfl, _⟩
    simp only at hr
    subst hr
    exact wpAny_pure (q true)
/-- nothing shows in a search among such tuples -/
theorem tup_seen {k : List Key} {b : Addr} {Q : Bool → Shared → Prop} (hk : IsK P w s.heap k b) {ys : List Value} (hy : ∀ y ∈ ys, ∃ k' c, y = Value.ref c ∧ IsK P w s.heap k' c) (q : Q false s) :
    wpAny (model P w) A (searchCouldBeSeen (.ref b) ys) Q E s := by
  unfold searchCouldBeSeen
  refine wpAny_bind (wpAny_forIn_list _ (fun rest r s' => r.1 = none ∧ s' = s ∧ ∀ y ∈ rest, ∃ k' c, y = Value.ref c ∧ IsK P w s.heap k' c) _ ?_ ?_ _ _ ⟨rfl, rfl, hy⟩)
  · rintro v rest r s' ⟨hr, rfl, all⟩
    obtain ⟨k', c, rfl, hc⟩ := all v (List.mem_cons_self ..)
    have tl : ∀ y ∈ rest, ∃ k' c, y = Value.ref c ∧ IsK P w s'.heap k' c := fun u hu => all u (List.mem_cons_of_mem _ hu)
    dsimp only
    by_cases same : (b == c || (carriedByValue (.ref b) && carriedByValue (.ref c))) = true
    · exact wp_if_pos same (wpAny_pure ⟨rfl, rfl, tl⟩)
    · refine wp_if_neg same (wpAny_bind (wpAny_eqIsQuiet_tuple hk ?_))
      simp only [Bool.not_true, Bool.false_eq_true, if_false]
      refine wpAny_bind (wpAny_eqIsQuiet_tuple hc ?_)
      simp only [Bool.not_true, Bool.false_eq_true, if_false]
      refine wpAny_bind (tup_class hk ?_)
      simp only [Bool.false_eq_true, if_false]
      refine wpAny_bind (tup_class hc ?_)
      simp only [Bool.false_eq_true, if_false]
      exact wpAny_pure ⟨rfl, rfl, tl⟩
  · rintro ⟨r1, r2⟩ s' ⟨hr, rfl, _⟩
    simp only at hr
    subst hr
    exact wpAny_pure q
/-- the rows of the table -/
def rowE (P : Program) (w : World) (p : Row) : Int × Value := (kHash P w p.2, .ref p.1)
structure SetQ (P : Program) (w : World) (h : Heap) (a : Addr) (L : List Row) (es : Array (Int × Value)) (ep : Nat) (t : SetTable) : Prop where
  ob : ∃ o, h.get? a = some o ∧ o.ExactSet ∧ o.data = .set es ep t
  rows : es.toList = L.map (rowE P w)
  tab : TabOk t (L.map fun p => kHash P w p.2)
  nd : (L.map (·.2)).Nodup
  tup : ∀ p ∈ L, IsK P w h p.2 p.1
  led : w.params.followText "set-order" = true ∨ t.led = true
  room : L.length * 5 < t.mask * 3
  few : L.length < 64
variable {a : Addr} {L : List Row} {es : Array (Int × Value)} {ep : Nat} {t : SetTable}
theorem rows_len {es : Array (Int × Value)} {L : List Row} (h : es.toList = L.map (rowE P w)) : es.size = L.length := by
  have z := congrArg List.length h
  rwa [Array.length_toList, List.length_map] at z
theorem rows_get {es : Array (Int × Value)} {L : List Row} (h : es.toList = L.map (rowE P w)) {i : Nat} {p : Row} (e : L[i]? = some p) : es[i]? = some (rowE P w p) := by
  rw [← Array.getElem?_toList, h, List.getElem?_map, e]; rfl
theorem SetQ.fits (R : SetQ P w s.heap a L es ep t) : t.fits es.size = true := by
  have z1 := R.tab.sz
  rw [List.length_map] at z1
  have z2 := rows_len R.rows
  have z3 := R.room
  unfold SetTable.fits SetTable.fill
  rw [R.tab.dm, Bool.and_eq_true, beq_iff_eq, decide_eq_true_eq]
  show t.place.size = es.size ∧ t.place.size + 0 ≤ t.mask
  omega
abbrev stp (m : Nat) (h : Int) (c : Nat) : SetTable.Probe := nth m (runAt m (SetTable.bits h % (m + 1)) (SetTable.bits h)) c
theorem stp_dummy (m : Nat) (h : Int) (c : Nat) : (stp m h c).dummy = none := by
  have all : ∀ (n : Nat) (p : SetTable.Probe), p.dummy = none → (nth m p n).dummy = none := fun n => by
    induction n with
    | zero => exact fun p z => z
    | succ n ih => exact fun p z => ih (adv m p) (by unfold adv; split <;> exact z)
  exact all c _ rfl
theorem seek (R : SetQ P w s.heap a L es ep t) {x : Addr} {k : List Key} (hx : IsK P w s.heap k x) (hu : A.units < cLine) {N : Nat} (lim : N < 10 * SetTable.turns t.mask) (free : way t.mask (kHash P w k) N ∉ t.place.toList)
    (used : ∀ c, c < N → way t.mask (kHash P w k) c ∈ t.place.toList) {Q : SetFound → Shared → Prop} (qi : k ∈ L.map (·.2) → Q (.there none) s) (qo : k ∉ L.map (·.2) → Q (.free (way t.mask (kHash P w k) N) false) s) :
    ∀ (f c : Nat) (stand : Option SetTable.Probe), stand.getD (t.probeStart (kHash P w k)) = stp t.mask (kHash P w k) c → c ≤ N → N - c < f →
      (∀ (i : Nat) p, L[i]? = some p → p.2 = k → ∃ c', c ≤ c' ∧ c' < N ∧ t.place.toList[i]? = some (way t.mask (kHash P w k) c')) → wpAny (model P w) A (setSearchFrom a (.ref x) (kHash P w k) true f stand) Q E s
  | 0, c, stand, _, _, hf, _ => absurd hf (Nat.not_lt_zero _)
  | f + 1, c, stand, from_, hc, hf, ahead => by
    obtain ⟨o, g, ex, d⟩ := R.ob
    generalize hH : kHash P w k = Hx at lim free used from_ ahead qo ⊢
    rw [setSearchFrom_succ]
    refine wpAny_bind (wpAny_setState_of g d R.fits ?_)
    dsimp only
    refine wp_if_neg (by unfold SetTable.gaveWay; rw [mask_odd R.tab.mok]; decide) ?_
    try refine wpAny_bind (wpAny_pure ?_)
    have shift : ∀ q, nth t.mask (stp t.mask Hx c) q = stp t.mask Hx (c + q) := fun q => (nth_add t.mask c _ q).symm
    have jq : ∀ q, (nth t.mask (stp t.mask Hx c) q).j = way t.mask Hx (c + q) := fun q => congrArg SetTable.Probe.j (shift q)
    have up : c + (N - c) = N := by omega
    have hashAt : ∀ (i : Nat) p, L[i]? = some p → (es[i]?.map (·.1)).getD 0 = kHash P w p.2 := fun i p hp => by
      rw [rows_get R.rows hp]; rfl
    rcases go_spec t R.tab.ris R.tab.dm (fun i => (es[i]?.map (·.1)).getD 0) Hx (10 * SetTable.turns t.mask) (N - c) _ (stp_dummy t.mask Hx c) (by omega) (fun q hq => by rw [jq]; exact used (c + q) (by omega)) (by rw [jq, up]; exact free) with ⟨q, i, hq, at_i, hh, none_before, found⟩ | ⟨none_before, found⟩
    · have found2 : t.probe (fun i => (es[i]?.map (·.1)).getD 0) Hx (stand.getD (t.probeStart Hx)) = some (.candidate (way t.mask Hx (c + q)) i (stp t.mask Hx (c + (q + 1)))) := by
        rw [from_, ← jq, ← shift]; exact found
      rw [found2]
      dsimp only
      rw [jq] at at_i
      have live := slot_live R.tab.ris at_i
      have il : i < L.length := by
        have z1 := (List.getElem?_eq_some_iff.mp at_i).1
        have z2 := R.tab.sz
        rw [List.length_map] at z2
        rw [Array.length_toList] at z1
        omega
      obtain ⟨p, hp⟩ : ∃ p, L[i]? = some p := ⟨_, List.getElem?_eq_getElem il⟩
      have pm : p ∈ L := List.mem_of_getElem? hp
      have go : wpAny (model P w) A (searchRest a (.ref x) Hx true f es t (way t.mask Hx (c + q)) i (stp t.mask Hx (c + (q + 1)))) Q E s := by
        unfold searchRest
        rw [rows_get R.rows hp]
        dsimp only [rowE]
        refine wpAny_bind (wpAny_holding (wpAny_eqBool_tuple hu (R.tup p pm) hx ?_))
        refine wpAny_bind (wpAny_setState_of g d R.fits ?_)
        dsimp only
        by_cases eq : p.2 = k
        · exact wp_if_pos (by simp [eq]) (wpAny_pure (qi (List.mem_map.mpr ⟨p, pm, eq⟩)))
        · refine wp_if_neg (by simp [eq]) ?_
          try refine wpAny_bind (wpAny_pure ?_)
          rw [sameMem]
          dsimp only
          simp only [if_true, live, rows_get R.rows hp, rowE]
          refine wpAny_bind (wpAny_isSame_ref_self (wpAny_bind (wpAny_pure ?_)))
          simp only [if_true]
          refine wp_if_neg (by simp [eq]) ?_
          subst hH
          refine seek R hx hu lim free used qi qo f (c + (q + 1)) _ rfl (by omega) (by omega) fun i0 p0 h0 e0 => ?_
          obtain ⟨c', a1, a2, a3⟩ := ahead i0 p0 h0 e0
          refine ⟨c', ?_, a2, a3⟩
          rcases Nat.lt_trichotomy c' (c + q) with z | z | z
          · exact absurd ((hashAt i0 p0 h0).trans (congrArg (kHash P w) e0)) (none_before (c' - c) i0 (by omega) (by rw [jq, show c + (c' - c) = c' by omega]; exact a3))
          · rw [z] at a3
            have s0 := slot_live R.tab.ris a3
            rw [live] at s0
            cases s0
            rw [hp] at h0
            exact absurd ((congrArg Prod.snd (Option.some.inj h0)).trans e0) eq
          · omega
      by_cases led : t.led = true
      · refine wp_if_neg (by simp [led]) ?_
        try refine wpAny_bind (wpAny_pure ?_)
        exact go
      · refine wp_if_pos (by simp [led]) (wpAny_bind (tup_seen hx (fun y hy => ?_) ?_))
        · obtain ⟨e, he, rfl⟩ := List.mem_map.mp hy
          have he1 : e ∈ es ∧ e.1 = Hx := by simpa using he
          have he2 : e ∈ es.toList := by simpa using he1.1
          rw [R.rows] at he2
          obtain ⟨p2, hp2, rfl⟩ := List.mem_map.mp he2
          exact ⟨p2.2, p2.1, rfl, R.tup p2 hp2⟩
        · refine wp_if_neg (by decide) ?_
          try refine wpAny_bind (wpAny_pure ?_)
          exact go
    · have found2 : t.probe (fun i => (es[i]?.map (·.1)).getD 0) Hx (stand.getD (t.probeStart Hx)) = some (.empty (way t.mask Hx N) none) := by
        have e2 : way t.mask Hx N = (nth t.mask (stp t.mask Hx c) (N - c)).j := by rw [jq, up]
        rw [from_, e2]; exact found
      rw [found2]
      dsimp only
      refine wpAny_pure (qo fun hm => ?_)
      obtain ⟨p0, h0, e0⟩ := List.mem_map.mp hm
      obtain ⟨i0, hi0, ei⟩ := List.getElem_of_mem h0
      have h00 : L[i0]? = some p0 := by rw [List.getElem?_eq_getElem hi0, ei]
      obtain ⟨c', a1, a2, a3⟩ := ahead i0 p0 h00 e0
      exact none_before (c' - c) i0 (by omega) (by rw [jq, show c + (c' - c) = c' by omega]; exact a3) ((hashAt i0 p0 h00).trans ((congrArg (kHash P w) e0).trans hH))
end
end Ss
namespace Ss
open PySem PySem.Spec PyProof.Rows L2 Sw
section
variable {P : Program} {w : World} {A : Around} {E : Value → Shared → Prop} {s : Shared} {a : Addr} {L : List Row} {es : Array (Int × Value)} {ep : Nat} {t : SetTable}
theorem isk_but {h h' : Heap} {k : List Key} {b : Addr} {o : Obj} (x : IsK P w h k b) (g : h.get? a = some o) (d : o.data = .set es ep t) (sb : Heap.SameBut a h h') : IsK P w h' k b := by
  obtain ⟨o2, its, n, g2, c2, d2, i2⟩ := x
  refine ⟨o2, its, n, (sb.2 b fun z => ?_).trans g2, c2, d2, i2⟩
  rw [z, g] at g2
  cases g2
  rw [d] at d2; cases d2
theorem tab_plain {hs : List Int} (T : TabOk t hs) (b : Bool) : TabOk { t with plain := b } hs := ⟨T.ris, T.dm, T.sz, T.mok, T.bd, T.reach⟩
theorem get_rows (h : es.toList = L.map (rowE P w)) : ∀ order : List Nat, (∀ i ∈ order, i < L.length) → order.filterMap (fun i => es[i]?) = (order.filterMap fun i => L[i]?).map (rowE P w) ∧
    ((order.filterMap fun i => L[i]?).map fun p => kHash P w p.2) = order.map fun i => (es.map (·.1)).getD i 0
  | [], _ => ⟨rfl, rfl⟩
  | i :: r, hl => by
    obtain ⟨e1, e2⟩ := get_rows h r fun j hj => hl j (List.mem_cons_of_mem _ hj)
    have li : L[i]? = some (L[i]'(hl i (List.mem_cons_self ..))) := List.getElem?_eq_getElem _
    have ei := rows_get h li
    rw [List.filterMap_cons_some ei, List.filterMap_cons_some li, e1, List.map_cons, List.map_cons, List.map_cons, e2]
    refine ⟨rfl, ?_⟩
    have e3 : (es.map (·.1)).getD i 0 = kHash P w (L[i]'(hl i (List.mem_cons_self ..))).2 := by
      rw [Array.getD_eq_getD_getElem?, Array.getElem?_map, ei]; rfl
    rw [e3]
theorem all_of_range {α : Type} (l : List α) : (List.range l.length).filterMap (fun i => l[i]?) = l := by
  have part : ∀ n, n ≤ l.length → (List.range n).filterMap (fun i => l[i]?) = l.take n := fun n => by
    induction n with
    | zero => exact fun _ => rfl
    | succ n ih =>
      intro hn
      rw [List.range_succ, List.filterMap_append, ih (by omega), List.take_succ, List.getElem?_eq_getElem hn, List.filterMap_cons_some (List.getElem?_eq_getElem hn)]
      rfl
  rw [part _ (Nat.le_refl _), List.take_length]
/-- all rows laid anew in a larger table -/
theorem relay_go {o : Obj} (g : s.heap.get? a = some o) (ex : o.ExactSet) (d : o.data = .set es ep t) (rows : es.toList = L.map (rowE P w)) (sz : t.place.size = es.size) (dm : t.dummies = #[]) (fl : es.size ≤ t.mask) (nd : (L.map (·.2)).Nodup) (tup : ∀ p ∈ L, IsK P w s.heap p.2 p.1)
    (led : w.params.followText "set-order" = true ∨ t.led = true) (few : L.length < 64) {wish M : Nat} (hM : SetTable.sizeAbove wish - 1 = M) (okM : MaskOk M) (top : SetTable.sizeAbove wish ≤ 128) (space : L.length * 5 < M * 3) {Q : Unit → Shared → Prop}
    (q : ∀ h' L' es' ep' t', Heap.SameBut a s.heap h' → SetQ P w h' a L' es' ep' t' → L'.Perm L → Q () { s with heap := h' }) : wpAny (model P w) A (setRelay a wish) Q E s := by
  have el := rows_len rows
  have fits : t.fits es.size = true := by
    unfold SetTable.fits SetTable.fill
    rw [dm, Bool.and_eq_true, beq_iff_eq, decide_eq_true_eq]
    exact ⟨sz, by show t.place.size + 0 ≤ t.mask; omega⟩
  obtain ⟨u, order, er, po, T, em, eled, _, _⟩ := relaid_ok t (hs := es.map (·.1)) (wanted := wish) hM okM (by rw [Array.size_map, el]; omega)
  rw [Array.size_map, el] at po
  obtain ⟨r1, r2⟩ := get_rows rows order.toList fun i hi => List.mem_range.mp (po.mem_iff.mp hi)
  have pL : (order.toList.filterMap fun i => L[i]?).Perm L := (po.filterMap _).trans (.of_eq (all_of_range L))
  rw [← r2] at T
  generalize (order.toList.filterMap fun i => L[i]?) = L2 at r1 pL T
  have r1' : (order.filterMap (es[·]?)).toList = L2.map (rowE P w) := by rw [Array.toList_filterMap]; exact r1
  have s2 : (order.filterMap (es[·]?)).size = es.size := by rw [rows_len r1', pL.length_eq, el]
  rw [setRelay_eq]
  refine wpAny_bind (wpAny_setState_of g d fits ?_)
  dsimp only
  refine wp_if_neg (by rw [sizeLine_eq]; omega) ?_
  try refine wpAny_bind (wpAny_pure ?_)
  rw [er]
  dsimp only
  refine wpAny_bind (wp_if_neg (by rw [s2]; simp) ?_)
  try refine wpAny_bind (wpAny_pure ?_)
  refine wpAny_pure ?_
  dsimp only
  refine wpAny_storeSet_of g d ?_ (by rw [s2, el, sizeLine_eq]; omega)
  have sb := Heap.SameBut.update s.heap a (Obj.putSet (order.filterMap (es[·]?)) u)
  exact q _ L2 _ (ep + 1) u sb ⟨⟨_, put_at g d, ⟨ex.1, ex.2.1, ex.2.2⟩, rfl⟩, r1', T, (pL.map (·.2)).nodup_iff.mpr nd, fun p hp => isk_but (tup p (pL.mem_iff.mp hp)) g d sb, by rw [eled]; exact led, by rw [pL.length_eq, em]; exact space, by rw [pL.length_eq]; exact few⟩ pL
/-- what the set has, one more -/
structure InsT (L : List Row) (x : Row) (L' : List Row) : Prop where
  old : x.2 ∈ L.map (·.2) → L' = L
  new : x.2 ∉ L.map (·.2) → L'.Perm (x :: L)
theorem InsT.len {L L' : List Row} {x : Row} (n : InsT L x L') : L'.length ≤ L.length + 1 := by
  rcases Classical.em (x.2 ∈ L.map (·.2)) with h | h
  · rw [n.old h]; omega
  · rw [(n.new h).length_eq]; exact Nat.le_refl _
theorem add_tup (R : SetQ P w s.heap a L es ep t) {x : Addr} {k : List Key} (hx : IsK P w s.heap k x) (hu : A.units < cLine) (few : L.length + 1 < 64) {Q : Bool → Shared → Prop}
    (q : ∀ b h' L' es' ep' t', Heap.SameBut a s.heap h' → SetQ P w h' a L' es' ep' t' → InsT L (x, k) L' → Q b { s with heap := h' }) : wpAny (model P w) A (setAddHashed a (.ref x) (kHash P w k)) Q E s := by
  obtain ⟨o, g, ex, d⟩ := R.ob
  have el := rows_len R.rows
  have room := R.room
  unfold setAddHashed
  refine wpAny_holding ?_
  rw [show (100000 : Nat) = 99999 + 1 from rfl, setAddHashedIn_succ]
  refine wpAny_bind (wpAny_setState_of g d R.fits ?_)
  dsimp only
  refine wp_if_neg (by simp [byScan, Value.scannable]) ?_
  try refine wpAny_bind (wpAny_pure ?_)
  obtain ⟨N, lim, free, used⟩ := R.tab.first (by rw [List.length_map]; omega) (kHash P w k)
  have big : N < 100000 := by
    have : 10 * SetTable.turns t.mask ≤ 1420 := by
      unfold SetTable.turns
      rcases R.tab.mok with e | e | e <;> omega
    omega
  unfold setSearch
  refine wpAny_bind (seek R hx hu lim free used (fun hin => ?_) (fun out => ?_) 100000 0 none rfl (Nat.zero_le _) (by omega) fun i p hp hk => ?_)
  · dsimp only
    exact wpAny_pure (q false s.heap L es ep t (Heap.SameBut.refl a s.heap) R ⟨fun _ => rfl, fun z => absurd hin z⟩)
  · dsimp only
    refine wpAny_bind (wpAny_setState_of g d R.fits ?_)
    dsimp only
    obtain ⟨p1, p2, p3, p4, p5, p6, p7, p8, p9⟩ := R.tab.put free used
    have ld0 : w.params.followText "set-order" = true ∨ (t.put (way t.mask (kHash P w k) N)).1.led = true := by rw [p5]; exact R.led
    generalize t.put (way t.mask (kHash P w k) N) = pt at p1 p3 p4 p9 ld0 ⊢
    obtain ⟨t1, at_⟩ := pt
    dsimp only at p1 p3 p4 p9 ld0 ⊢
    subst p1
    -- the new rows
    generalize SetTable.below t.place (way t.mask (kHash P w k) N) = j at p2 p3 ⊢
    have rows1 : (SetTable.insertAt es j (kHash P w k, Value.ref x)).toList = (L.take j ++ (x, k) :: L.drop j).map (rowE P w) := by
      rw [SetTable.toList_insertAt, R.rows, List.map_append, List.map_cons, List.map_take, List.map_drop]; rfl
    have pm : (L.take j ++ (x, k) :: L.drop j).Perm ((x, k) :: L) := by
      have z : (L.take j ++ (x, k) :: L.drop j).Perm ((x, k) :: (L.take j ++ L.drop j)) := List.perm_middle
      rwa [List.take_append_drop] at z
    have tab1 : TabOk t1 ((L.take j ++ (x, k) :: L.drop j).map fun p => kHash P w p.2) := by
      rw [List.map_append, List.map_cons, List.map_take, List.map_drop]; exact p3
    have size1 := rows_len rows1
    rw [pm.length_eq, List.length_cons] at size1
    have nd1 : ((L.take j ++ (x, k) :: L.drop j).map (·.2)).Nodup := (pm.map (·.2)).nodup_iff.mpr (List.nodup_cons.mpr ⟨out, R.nd⟩)
    generalize SetTable.insertAt es j (kHash P w k, Value.ref x) = es1 at rows1 size1 ⊢
    generalize L.take j ++ (x, k) :: L.drop j = L1 at pm tab1 nd1 rows1
    have n1 : L1.length = L.length + 1 := pm.length_eq
    -- behind the store
    have rest : ∀ t2 : SetTable, TabOk t2 (L1.map fun p => kHash P w p.2) → t2.mask = t1.mask → t2.fill = t1.fill → (w.params.followText "set-order" = true ∨ t2.led = true) → wpAny (model P w) A (do
        storeSet a es1 t2
        if (!false && t2.tooFull) = true then setRelay a (SetTable.grown (es.size + 1))
        pure true) Q E s := fun t2 T2 em ef ld2 => by
      refine wpAny_bind (wpAny_storeSet_of g d ?_ (by rw [size1, sizeLine_eq]; omega))
      have sb := Heap.SameBut.update s.heap a (Obj.putSet es1 t2)
      have g1 := put_at (fs := es1) (u := t2) g d
      generalize s.heap.update a (Obj.putSet es1 t2) = h1 at sb g1 ⊢
      have tup1 : ∀ p ∈ L1, IsK P w h1 p.2 p.1 := fun p hp => by
        rcases List.mem_cons.mp (pm.mem_iff.mp hp) with rfl | hp
        · exact isk_but hx g d sb
        · exact isk_but (R.tup p hp) g d sb
      have full : t2.tooFull = true ↔ (L.length + 1) * 5 ≥ t.mask * 3 := by
        unfold SetTable.tooFull
        rw [decide_eq_true_eq, ef, p9, List.length_map, em, p4]
      have sz1 : t2.place.size = es1.size := by rw [T2.sz, List.length_map, n1, size1]
      by_cases hf : t2.tooFull = true
      · have hfull := full.mp hf
        first
          | (refine wpAny_bind ?_; refine wp_if_pos (by simp [hf]) ?_)
          | (refine wp_if_pos (by simp [hf]) ?_; refine wpAny_bind ?_)
        rw [el]
        have two : (t.mask = 7 ∧ L.length = 4) ∨ (t.mask = 31 ∧ L.length = 18) := by
          rcases R.tab.mok with e | e | e <;> rw [e] at hfull room <;> omega
        have go : ∀ M, SetTable.sizeAbove (SetTable.grown (L.length + 1)) - 1 = M → MaskOk M → SetTable.sizeAbove (SetTable.grown (L.length + 1)) ≤ 128 → (L.length + 1) * 5 < M * 3 →
            wpAny (model P w) A (setRelay a (SetTable.grown (L.length + 1))) (fun _ s' => wpAny (model P w) A (pure true) Q E s') E { s with heap := h1 } := fun M m1 m2 m3 m4 => by
          refine relay_go (s := { s with heap := h1 }) g1 ⟨ex.1, ex.2.1, ex.2.2⟩ rfl rows1 sz1 T2.dm (by rw [size1, em, p4]; rcases two with ⟨e, e2⟩ | ⟨e, e2⟩ <;> omega) nd1 tup1 ld2 (by omega) m1 m2 m3 (by rw [n1]; exact m4) ?_
          intro h2 L2 es2 ep2 u sb2 R2 pm2
          exact wpAny_pure (q true h2 L2 es2 ep2 u (sb.trans sb2) R2 ⟨fun z => absurd z out, fun _ => pm2.trans pm⟩)
        rcases two with ⟨_, e2⟩ | ⟨_, e2⟩
        · exact go 31 (by rw [e2, size_20]) (.inr (.inl rfl)) (by rw [e2, size_20]; decide) (by omega)
        · exact go 127 (by rw [e2, size_76]) (.inr (.inr rfl)) (by rw [e2, size_76]; decide) (by omega)
      · have hfull : ¬ (L.length + 1) * 5 ≥ t.mask * 3 := fun z => hf (full.mpr z)
        first
          | refine wp_if_neg (by simp [hf]) ?_
          | (refine wpAny_bind ?_; refine wp_if_neg (by simp [hf]) ?_; refine wpAny_pure ?_)
        exact wpAny_pure (q true h1 L1 es1 (ep + 1) t2 sb ⟨⟨_, g1, ⟨ex.1, ex.2.1, ex.2.2⟩, rfl⟩, rows1, T2, nd1, tup1, ld2, by rw [n1, em, p4]; omega, by omega⟩ ⟨fun z => absurd z out, fun _ => pm⟩)
    by_cases hp : t1.plain = true
    · first
        | (refine wpAny_bind ?_; refine wp_if_pos hp ?_; refine tup_byVal hx fun c => ?_)
        | refine wp_if_pos hp (wpAny_bind (tup_byVal hx fun c => ?_))
      cases c with
      | true => exact rest t1 tab1 rfl rfl ld0
      | false => exact rest { t1 with plain := false } (tab_plain tab1 false) rfl rfl ld0
    · first
        | (refine wpAny_bind ?_; refine wp_if_neg hp ?_; refine wpAny_pure ?_)
        | refine wp_if_neg hp (wpAny_bind (wpAny_pure ?_))
      exact rest t1 tab1 rfl rfl ld0
  · have hi : (L.map fun p => kHash P w p.2)[i]? = some (kHash P w k) := by rw [List.getElem?_map, hp, ← hk]; rfl
    have hil : i < t.place.toList.length := by
      have z1 : i < L.length := (List.getElem?_eq_some_iff.mp hp).1
      have z2 := R.tab.sz
      rw [List.length_map] at z2
      rw [Array.length_toList]; omega
    obtain ⟨c, hc, e⟩ := R.tab.before free hi (List.getElem?_eq_getElem hil)
    exact ⟨c, Nat.zero_le _, hc, by rw [List.getElem?_eq_getElem hil, e]⟩
end
end Ss
namespace Ss
open PySem PySem.Spec PyProof.Rows L2 Sw
/-! ### rows that come -/
structure CovT (ks : List Row) (i : Nat) (L : List Row) : Prop where
  sub : ∀ p ∈ L, p ∈ ks.take i
  all : ∀ p ∈ ks.take i, p.2 ∈ L.map (·.2)
  len : L.length ≤ i
theorem CovT.next {ks L L' : List Row} {i : Nat} {x : Row} (c : CovT ks i L) (e : ks[i]? = some x) (n : InsT L x L') : CovT ks (i + 1) L' := by
  have t : ks.take (i + 1) = ks.take i ++ [x] := by rw [List.take_succ, e]; rfl
  refine ⟨fun p hp => ?_, fun p hp => ?_, Nat.le_trans n.len (Nat.succ_le_succ c.len)⟩
  · rw [t, List.mem_append, List.mem_singleton]
    rcases Classical.em (x.2 ∈ L.map (·.2)) with h | h
    · rw [n.old h] at hp; exact .inl (c.sub p hp)
    · rcases List.mem_cons.mp ((n.new h).mem_iff.mp hp) with z | z
      · exact .inr z
      · exact .inl (c.sub p z)
  · rw [t, List.mem_append, List.mem_singleton] at hp
    rcases Classical.em (x.2 ∈ L.map (·.2)) with h | h
    · rw [n.old h]
      rcases hp with hp | rfl
      · exact c.all p hp
      · exact h
    · have m := (n.new h).map (·.2)
      rw [m.mem_iff, List.map_cons, List.mem_cons]
      rcases hp with hp | rfl
      · exact .inr (c.all p hp)
      · exact .inl rfl
section
variable {P : Program} {w : World} {A : Around} {R : Result → Shared → Prop} {J : Addr} {fp wr : List Addr} {G : Array GenState → Array GenState → Prop} {n : Nat} {Pv : Nat → Value → Prop} {St : Nat → Shared → Prop}
theorem isk_mono {h h' : Heap} {k : List Key} {b : Addr} (x : IsK P w h k b) (e : ∀ o, h.get? b = some o → h'.get? b = some o) : IsK P w h' k b := by
  obtain ⟨o, its, m, g, r⟩ := x
  exact ⟨o, its, m, e o g, r⟩
theorem SetQ.moved {h h' : Heap} {a : Addr} {L : List Row} {es : Array (Int × Value)} {ep : Nat} {t : SetTable} (S : SetQ P w h a L es ep t) (k : ∀ b o, (b = a ∨ ∃ p ∈ L, p.1 = b) → h.get? b = some o → h'.get? b = some o) : SetQ P w h' a L es ep t := by
  obtain ⟨o, g, r⟩ := S.ob
  exact ⟨⟨o, k a o (.inl rfl) g, r⟩, S.rows, S.tab, S.nd, fun p hp => isk_mono (S.tup p hp) fun o e => k p.1 o (.inr ⟨p, hp, rfl⟩) e, S.led, S.room, S.few⟩
theorem fillT (W : WalksS P w A.in1 J fp wr G n Pv St) (a : Addr) (ha : a ∉ fp) (hu : A.in1.units < cLine) (ks : List Row) (few : n < 63) (kl : ks.length = n) (val : ∀ i v, Pv i v → ∃ p, ks[i]? = some p ∧ v = .ref p.1) (apart : ∀ p ∈ ks, p.1 ∉ fp) :
    ∀ (m i : Nat) (s : Shared) (L : List Row) (es : Array (Int × Value)) (ep : Nat) (t : SetTable), n - i = m → i ≤ n → St i s → SetQ P w s.heap a L es ep t → (∀ p ∈ ks, IsK P w s.heap p.2 p.1) → CovT ks i L →
      (∀ s' L' es' ep' t', Moved (a :: wr) G s s' → SetQ P w s'.heap a L' es' ep' t' → CovT ks n L' → R (.ok (.ret .none)) s') → codeAny (model P w) A (.builtin "set.update.loop" ⟨[.ref a, .ref J], []⟩) R s := by
  have nw : a ∉ wr := fun z => ha (W.sub _ z)
  have up : ∀ b ∈ wr, b ∈ a :: wr := fun b z => List.mem_cons_of_mem _ z
  have offw : ∀ p ∈ ks, p.1 ∉ wr := fun p hp z => apart p hp (W.sub _ z)
  intro m
  induction m with
  | zero =>
    intro i s L es ep t hm hi st S tups cv q
    obtain rfl : i = n := by omega
    refine codeAny_builtin (b := Builtin.«set.update.loop») PyProof.Rows.F.entry_set_update_loop ?_
    rw [show A.under (.builtin "set.update.loop" ⟨[.ref a, .ref J], []⟩) = A.in1 from Around.under_plainId PyProof.Rows.F.plain_set_update_loop _]
    refine wpAny_bind (W.done s _ _ st fun s2 mv => ?_)
    refine wpAny_pure (q s2 L es ep t (mv.mono up) (S.moved fun b o h e => mv.heap b o ?_ e) cv)
    rcases h with rfl | ⟨p, hp, rfl⟩
    · exact nw
    · exact offw p (List.mem_of_mem_take (cv.sub p hp))
  | succ m ih =>
    intro i s L es ep t hm hi st S tups cv q
    have lt : i < n := by omega
    refine codeAny_builtin (b := Builtin.«set.update.loop») PyProof.Rows.F.entry_set_update_loop ?_
    rw [show A.under (.builtin "set.update.loop" ⟨[.ref a, .ref J], []⟩) = A.in1 from Around.under_plainId PyProof.Rows.F.plain_set_update_loop _]
    refine wpAny_bind (W.item i s _ _ lt st fun v s2 pv st2 mv => ?_)
    obtain ⟨p, ep1, rfl⟩ := val i v pv
    have hp : p ∈ ks := List.mem_of_getElem? ep1
    have S2 : SetQ P w s2.heap a L es ep t := S.moved fun b o h e => mv.heap b o (by
      rcases h with rfl | ⟨p, hp, rfl⟩
      · exact nw
      · exact offw p (List.mem_of_mem_take (cv.sub p hp))) e
    have tups2 : ∀ p ∈ ks, IsK P w s2.heap p.2 p.1 := fun p hp => isk_mono (tups p hp) fun o e => mv.heap p.1 o (offw p hp) e
    refine wpAny_bind (m := holding [.ref p.1] (setAdd a (.ref p.1))) (wpAny_holding ?_)
    unfold setAdd
    refine wpAny_holding (wpAny_bind (wpAny_pyHash_tuple hu (tups2 p hp) ?_))
    refine add_tup (s := { s2 with toks := s2.toks + (p.2.length + 1) }) S2 (tups2 p hp) hu (by have := cv.len; omega) fun b h' L' es' ep' t' sb S3 nx => ?_
    obtain ⟨o, g, ex, d⟩ := S2.ob
    refine wpAny_pure ⟨plainId_quiet PyProof.Rows.F.plain_set_update_loop _, ih (i + 1) _ L' es' ep' t' (by omega) lt (W.frame _ s2 _ _ st2 (Nat.le_add_right _ _) fun b hb o z => ?_) S3 (fun p hp => isk_but (tups2 p hp) g d sb) (cv.next ep1 nx) fun s3 L3 es3 ep3 t3 m3 S4 c3 => ?_⟩
    · rw [sb.2 b (fun z2 : b = a => ha (z2 ▸ hb))]; exact z
    · refine q s3 L3 es3 ep3 t3 (Moved.trans W.gtrans ((mv.mono up).then_heap (Nat.le_add_right _ _) fun b o hb z => ?_) m3) S4 c3
      rw [sb.2 b (fun z2 : b = a => hb (z2 ▸ List.mem_cons_self))]; exact z
end
theorem setQ_bare {P : Program} {w : World} {h : Heap} {a : Addr} (g : h.get? a = some (bare (!w.params.followText "set-order"))) : SetQ P w h a [] #[] 0 (.fresh 0 0 (!w.params.followText "set-order")) where
  ob := ⟨_, g, ⟨rfl, rfl, rfl⟩, rfl⟩
  rows := rfl
  tab := ⟨.nil, rfl, rfl, .inl rfl, (fun x hx => by cases hx), (fun i h j e => by simp at e)⟩
  nd := .nil
  tup := fun p hp => by cases hp
  led := by
    show _ ∨ (!w.params.followText "set-order") = true
    cases w.params.followText "set-order" <;> simp
  room := by show 0 * 5 < 7 * 3; decide
  few := by decide
theorem fills_tup {P : Program} {w : World} {s : Shared} {l : Addr} {items : Array Value} {A : Around} {ks : List Row} (hk : ks.length = items.size) (val : ∀ (i : Nat) (v : Value), items[i]? = some v → ∃ p, ks[i]? = some p ∧ v = .ref p.1) (tups : ∀ p ∈ ks, IsK P w s.heap p.2 p.1) (few : items.size < 63)
    (nl : ∀ p ∈ ks, p.1 ≠ l) (hu : A.in1.units < cLine) : Fills P w s l items A fun h' => ∃ L es ep t, SetQ P w h' s.heap.objs.size L es ep t ∧ CovT ks items.size L := by
  intro R J G St s1 W nf lt st e0 keep q
  refine fillT W s.heap.objs.size nf hu ks few hk val (fun p hp z => ?_) (items.size - 0) 0 _ [] _ _ _ (by omega) (Nat.zero_le _) st (setQ_bare e0) (fun p hp => isk_mono (tups p hp) fun o e => keep _ o e) ⟨(fun p hp => by cases hp), (fun p hp => by simp at hp), Nat.le_refl _⟩ fun s' L es ep t mv S cv => ?_
  · obtain ⟨o, its, m, g, _⟩ := tups p hp
    rcases List.mem_cons.mp z with z | z
    · have z1 := Heap.lt_size g
      rw [z] at z1
      exact Nat.lt_irrefl _ (Nat.lt_trans z1 lt)
    · exact nl p hp (List.mem_singleton.mp z)
  · exact q s' mv ⟨L, es, ep, t, S, cv⟩
end Ss
namespace Ss
open PySem PySem.Spec PyProof.Rows L2 Sw
def kData : Key → PyData
  | .inl i => .int i
  | .inr z => .str z
/-- a kind of tuples of ints and texts -/
structure TKn (α : Type) [DecidableEq α] [PySem.W.DatumOrd α] where
  ks : α → List Key
  toD : ∀ a : α, PySem.W.Datum.toD a = .tuple ((ks a).map kData)
  ne : ∀ a : α, ∃ k r, ks a = k :: r
  inj : ∀ a b : α, ks a = ks b → a = b
  dep : ∀ a : α, (PySem.W.Datum.toD a).depth ≤ 2
theorem lt_neg {α : Type} [DecidableEq α] [PySem.W.DatumOrd α] (a b c : α) (h : PySem.W.DatumOrd.lt a c = true) : PySem.W.DatumOrd.lt a b = true ∨ PySem.W.DatumOrd.lt b c = true := by
  rw [← PySem.W.DatumOrd.lt_eq] at h ⊢
  rw [← PySem.W.DatumOrd.lt_eq]
  exact lex_negTrans (O := itemOrd) _ _ _ h
theorem lt_self {α : Type} [DecidableEq α] [PySem.W.DatumOrd α] (a : α) : PySem.W.DatumOrd.lt a a = false := by
  rw [← PySem.W.DatumOrd.lt_eq]; exact PySem.W.dataLt_self _
theorem lt_asym {α : Type} [DecidableEq α] [PySem.W.DatumOrd α] (a b : α) (h : PySem.W.DatumOrd.lt a b = true) : PySem.W.DatumOrd.lt b a = false := by
  cases e : PySem.W.DatumOrd.lt b a with
  | false => rfl
  | true =>
    rw [← PySem.W.DatumOrd.lt_eq] at h e
    have := lex_trans (O := itemOrd) _ _ _ h e
    have z : PySem.W.dataLt (PySem.W.Datum.toD a) (PySem.W.Datum.toD a) = true := this
    rw [PySem.W.dataLt_self] at z; cases z
theorem perm_of_map {α β : Type} (f : α → β) : ∀ {vs : List β} {l : List α}, vs.Perm (l.map f) → ∃ m : List α, m.Perm l ∧ vs = m.map f
  | [], l, h => by
    have e : l.map f = [] := h.symm.eq_nil
    exact ⟨[], by rw [List.map_eq_nil_iff.mp e], rfl⟩
  | v :: r, l, h => by
    obtain ⟨x, hx, rfl⟩ := List.mem_map.mp (h.mem_iff.mp (List.mem_cons_self ..))
    obtain ⟨l1, l2, rfl⟩ := List.append_of_mem hx
    have p : (l1 ++ x :: l2).Perm (x :: (l1 ++ l2)) := List.perm_middle
    obtain ⟨m, hm, rfl⟩ := perm_of_map f (vs := r) (l := l1 ++ l2) (List.Perm.cons_inv (h.trans (p.map f)))
    exact ⟨x :: m, (hm.cons x).trans p.symm, rfl⟩
theorem lift_map {α β : Type} (g : α → β) (rows : List α) : ∀ L : List β, (∀ x ∈ L, ∃ r ∈ rows, g r = x) → ∃ bs : List α, bs.map g = L ∧ ∀ b ∈ bs, b ∈ rows
  | [], _ => ⟨[], rfl, fun b hb => by cases hb⟩
  | x :: L, h => by
    obtain ⟨r, hr, rfl⟩ := h x (List.mem_cons_self ..)
    obtain ⟨bs, e, all⟩ := lift_map g rows L fun y hy => h y (List.mem_cons_of_mem _ hy)
    exact ⟨r :: bs, by rw [List.map_cons, e], fun b hb => (List.mem_cons.mp hb).elim (fun z => z ▸ hr) (all b)⟩
theorem each_is {α β : Type} {R : α → β → Prop} (f : β → α) : ∀ {bs : List β}, (∀ b ∈ bs, R (f b) b) → PySem.W.EachIs R (bs.map f) bs
  | [], _ => .nil
  | b :: bs, h => .cons (h b (List.mem_cons_self ..)) (each_is f fun c hc => h c (List.mem_cons_of_mem _ hc))
theorem each_eq {α β : Type} {f : β → α} : ∀ {out : List α} {bs : List β}, PySem.W.EachIs (fun v b => v = f b) out bs → out = bs.map f
  | _, _, .nil => rfl
  | _, _, .cons h t => by rw [h, each_eq t]; rfl
/-- a tuple of scalars reads off no list -/
theorem scal_reads {h : Heap} : ∀ {vs : List Value} {ks : List Key} {as : List Addr}, ReadsAll h vs (ks.map kData) as → as = []
  | [], [], _, .nil => rfl
  | v :: vs, .inl i :: ks, _, r => by
    cases r with
    | cons h1 h2 =>
      cases h1
      rw [scal_reads h2]; rfl
  | v :: vs, .inr z :: ks, _, r => by
    cases r with
    | cons h1 h2 =>
      cases h1
      rw [scal_reads h2]; rfl
theorem tup_reads {h : Heap} {v : Value} {ks : List Key} {as : List Addr} (r : Reads h v (.tuple (ks.map kData)) as) : as = [] := by
  cases r with
  | tuple _ _ _ h4 => exact scal_reads h4
theorem keys_read {h : Heap} {P : Program} {w : World} : ∀ {ks : List Key} {vs : List Value}, ItemsAre (mixKind P w) ks vs → ReadsAll h vs (ks.map kData) []
  | _, _, .nil => .nil
  | k :: ks, v :: vs, .cons h1 h2 => by
    have t := keys_read (h := h) h2
    rcases keyIs_shape (show keyIs k v = true from h1) with ⟨i, tk, rfl, rfl⟩ | ⟨z, tk, rfl, rfl⟩
    · exact (ReadsAll.cons (as := []) (bs := []) (.int i tk) t : ReadsAll h _ _ ([] ++ []))
    · exact (ReadsAll.cons (as := []) (bs := []) (.str z tk) t : ReadsAll h _ _ ([] ++ []))
theorem isk_reads {h : Heap} {P : Program} {w : World} {k : List Key} {b : Addr} (x : IsK P w h k b) : Reads h (.ref b) (.tuple (k.map kData)) [] := by
  obtain ⟨o, its, n, g, c, d, i⟩ := x
  exact .tuple g c d (keys_read i)
section
variable {P : Program} {w : World} {A : Around} {E : Value → Shared → Prop} {s : Shared} {a : Addr} {L : List Row} {es : Array (Int × Value)} {ep : Nat} {t : SetTable}
theorem sorted_tup {α : Type} [DecidableEq α] [PySem.W.DatumOrd α] (κ : TKn α) (S : SetQ P w s.heap a L es ep t) (hh : A.handled = none) (hu : A.units + 16 < cLine) {rows : List (Addr × α)} (sub : ∀ p ∈ L, ∃ r ∈ rows, (r.1, κ.ks r.2) = p) {Q : Value → Shared → Prop}
    (q : ∀ (s2 : Shared) (p : Addr) (c : Nat) (bs : List (Addr × α)), (∀ b o, s.heap.get? b = some o → s2.heap.get? b = some o) → s.heap.objs.size ≤ p → s2.gens = s.gens → s2.os = s.os → s2.heap.get? p = some (seqObj "list" (bs.map fun r => Value.ref r.1).toArray c) →
      (bs.map fun r => (r.1, κ.ks r.2)).Perm L → (∀ b ∈ bs, b ∈ rows) → bs.Pairwise (fun x y => PySem.W.DatumOrd.lt y.2 x.2 = false) → bs.length ≤ sizeLine → Q (.ref p) s2) : wpAny (model P w) A (call (.builtin "sorted") [.ref a]) Q E s := by
  obtain ⟨o, g, ex, d⟩ := S.ob
  have el := rows_len S.rows
  have few := S.few
  refine Calls.call_function_entry kind_sorted plain_sorted entry_sorted (args_sorted1 _) ?_
  unfold Builtin.«sorted»
  refine wpAny_bind (m := checkCount "sorted" 1 1 _) (wpAny_pure ?_)
  refine wpAny_bind (collect_set (A := A.in1) hh ⟨o, g, ex.1, d⟩ S.fits (by show es.size < 4096; omega) S.tab.ris S.led fun s1 vs k1 z1 g1 o1 p1 => ?_)
  obtain ⟨bs0, e0, in0⟩ := lift_map (fun r : Addr × α => (r.1, κ.ks r.2)) rows L sub
  have e1 : es.toList.map (·.2) = bs0.map fun r => Value.ref r.1 := by
    rw [S.rows, ← e0, List.map_map, List.map_map]; rfl
  rw [e1] at p1
  obtain ⟨bs, pb, rfl⟩ := perm_of_map _ p1
  have lb : bs.length = L.length := by rw [pb.length_eq, ← e0, List.length_map]
  have lz : (bs.map fun r => Value.ref r.1).length ≤ sizeLine := by rw [List.length_map, lb, sizeLine_eq]; omega
  refine wpAny_bind (wpAny_newList ?_ lz)
  have at1 : (s1.heap.push (seqObj "list" (bs.map fun r => Value.ref r.1).toArray 0)).get? s1.heap.objs.size = some (seqObj "list" (bs.map fun r => Value.ref r.1).toArray 0) := Heap.get?_push_size _ rfl
  have isk : ∀ b ∈ bs, IsK P w s.heap (κ.ks b.2) b.1 := fun b hb => by
    have m : (b.1, κ.ks b.2) ∈ L := by rw [← e0]; exact List.mem_map.mpr ⟨b, pb.mem_iff.mp hb, rfl⟩
    exact S.tup _ m
  refine wpAny_bind (wpAny_holding (PySem.W.list_sort_data (s := { s1 with heap := s1.heap.push (seqObj "list" (bs.map fun r => Value.ref r.1).toArray 0) }) (enc := fun r : Addr × α => PySem.W.Datum.toD r.2) (R := fun v r => v = Value.ref r.1) at1 (each_is (fun r : Addr × α => Value.ref r.1) fun b hb => rfl) (each_is (fun r : Addr × α => Value.ref r.1) fun b hb => ?_)
    (PySem.W.AllAlike.of fun b c => PySem.W.DatumOrd.alike b.2 c.2) (PySem.W.Sortable.tuples fun b => ?_) (by rw [lb, sizeLine_eq]; omega) (fun b hb => ?_) fun out lo eo => ?_))
  · refine ⟨[], ?_, by simp⟩
    rw [κ.toD]
    exact PyProof.Rows.Reads.keeps (fun c o e => Heap.get?_push_of_some _ (k1 c o e)) (isk_reads (isk b hb))
  · obtain ⟨k, r, ek⟩ := κ.ne b.2
    exact ⟨kData k, r.map kData, by show PySem.W.Datum.toD b.2 = _; rw [κ.toD, ek]; rfl⟩
  · have := κ.dep b.2
    show A.in1.units + 1 + (PySem.W.Datum.toD b.2).depth < cLine
    show A.units + 1 + 1 + (PySem.W.Datum.toD b.2).depth < cLine
    omega
  · rw [each_eq eo]
    obtain ⟨c, hc⟩ := sortedHeap_at (vs := bs.map fun r => Value.ref r.1) (out := ((bs.mergeSort (PySem.W.dataLe false fun r : Addr × α => PySem.W.Datum.toD r.2)).map fun r => Value.ref r.1).toArray) at1
    have pm : (bs.mergeSort (PySem.W.dataLe false fun r : Addr × α => PySem.W.Datum.toD r.2)).Perm bs := List.mergeSort_perm ..
    have pw : (bs.mergeSort (PySem.W.dataLe false fun r : Addr × α => PySem.W.Datum.toD r.2)).Pairwise (fun x y => PySem.W.dataLe false (fun r : Addr × α => PySem.W.Datum.toD r.2) x y = true) := List.pairwise_mergeSort (fun x y z h1 h2 => ?_) (fun x y => ?_) _
    · refine wpAny_pure ⟨_, rfl, q _ s1.heap.objs.size c _ (fun b u e => ?_) z1 g1 o1 hc ?_ (fun b hb => in0 b (pb.mem_iff.mp (pm.mem_iff.mp hb))) (pw.imp fun {x y} h => ?_) (by rw [pm.length_eq]; simpa using lz)⟩
      · have e1 := k1 b u e
        have lt := Heap.lt_size e1
        show (sortedHeap (s1.heap.push (seqObj "list" (bs.map fun r => Value.ref r.1).toArray 0)) s1.heap.objs.size _ _).get? b = some u
        rw [sortedHeap_old (Nat.ne_of_lt lt) (by rw [Heap.size_push]; exact Nat.lt_succ_of_lt lt)]
        exact Heap.get?_push_of_some _ e1
      · have := (pm.trans pb).map fun r : Addr × α => (r.1, κ.ks r.2)
        rw [e0] at this
        exact this
      · have h2 : (!PySem.W.dataLt (PySem.W.Datum.toD y.2) (PySem.W.Datum.toD x.2)) = true := h
        rw [PySem.W.DatumOrd.lt_eq] at h2
        simpa using h2
    · have a1 : (!PySem.W.dataLt (PySem.W.Datum.toD y.2) (PySem.W.Datum.toD x.2)) = true := h1
      have a2 : (!PySem.W.dataLt (PySem.W.Datum.toD z.2) (PySem.W.Datum.toD y.2)) = true := h2
      show (!PySem.W.dataLt (PySem.W.Datum.toD z.2) (PySem.W.Datum.toD x.2)) = true
      rw [PySem.W.DatumOrd.lt_eq] at a1 a2 ⊢
      cases e : PySem.W.DatumOrd.lt z.2 x.2 with
      | false => rfl
      | true =>
        rcases lt_neg z.2 y.2 x.2 e with h | h
        · rw [h] at a2; cases a2
        · rw [h] at a1; cases a1
    · show ((!PySem.W.dataLt (PySem.W.Datum.toD y.2) (PySem.W.Datum.toD x.2)) || (!PySem.W.dataLt (PySem.W.Datum.toD x.2) (PySem.W.Datum.toD y.2))) = true
      rw [PySem.W.DatumOrd.lt_eq, PySem.W.DatumOrd.lt_eq]
      cases e : PySem.W.DatumOrd.lt y.2 x.2 with
      | false => rfl
      | true => rw [lt_asym _ _ e]; rfl
end
end Ss
namespace Ss
open PySem PySem.Spec PyProof.Rows L2 Sw
section
variable {X : Cx} {pins : List (Addr × Obj)} {σ : L2.St} {H : Hp} {s : Shared}
theorem isk_inv {k : List Key} {b : Addr} (I : Inv X pins σ H s) (h : SqT X.K H b (k.map kV)) : IsK X.prog X.w s.heap k b := by
  obtain ⟨its, r, pl, _⟩ := I.tuple h
  obtain ⟨o, ho, hc, n, hd⟩ := pl
  exact ⟨o, its.toArray, n, ho, hc, hd, by simpa using items_are r⟩
abbrev rowK {α : Type} [DecidableEq α] [PySem.W.DatumOrd α] (κ : TKn α) (r : Addr × α) : Row := (r.1, κ.ks r.2)
theorem vals_rows {α : Type} : ∀ {rows : List (Addr × α)} {us : List Value}, Vals (rows.map fun p => V.ref p.1) us → us = rows.map fun p => Value.ref p.1
  | [], _, .nil => rfl
  | p :: rows, _, .cons h t => by
    cases h
    rw [vals_rows t]; rfl
theorem call_setT {α : Type} [DecidableEq α] [PySem.W.DatumOrd α] (κ : TKn α) (I : Inv X pins σ H s) (hc : X.calm = true) (hu : X.A.units + 64 < cLine) {l : Addr} {rows : List (Addr × α)} (hq : SqL X.K H l (rows.map fun p => V.ref p.1) ∨ SqT X.K H l (rows.map fun p => V.ref p.1))
    (ht : ∀ p ∈ rows, SqT X.K H p.1 ((κ.ks p.2).map kV)) (few : rows.length < 63) {E : Value → Shared → Prop} {Q : Value → Shared → Prop}
    (q : ∀ (h' : Heap) (tk : Nat) (L : List Row) (es : Array (Int × Value)) (ep : Nat) (t : SetTable), SetQ X.prog X.w h' s.heap.objs.size L es ep t → CovT (rows.map (rowK κ)) rows.length L → (∀ b o, b < s.heap.objs.size → s.heap.get? b = some o → h'.get? b = some o) → Q (.ref s.heap.objs.size) { s with heap := h', toks := tk }) :
    wpAny (model X.prog X.w) X.A (call (.type "set") [.ref l]) Q E s := by
  have tups : ∀ p ∈ rows.map (rowK κ), IsK X.prog X.w s.heap p.2 p.1 := fun p hp => by
    obtain ⟨r, hr, rfl⟩ := List.mem_map.mp hp
    exact isk_inv I (ht r hr)
  have val : ∀ (its : List Value), its = rows.map (fun p => Value.ref p.1) → ∀ (i : Nat) (v : Value), its.toArray[i]? = some v → ∃ p, (rows.map (rowK κ))[i]? = some p ∧ v = .ref p.1 := fun its e i v hv => by
    subst e
    simp only [List.getElem?_toArray, List.getElem?_map, Option.map_eq_some_iff] at hv
    obtain ⟨r, hr, rfl⟩ := hv
    exact ⟨rowK κ r, by rw [List.getElem?_map, hr]; rfl, rfl⟩
  have units : (X.A.in1.in1).in1.units < cLine := by show X.A.units + 1 + 1 + 1 < cLine; omega
  rcases hq with hq | hq
  · obtain ⟨its, rv, pl, hz⟩ := I.list hq
    have e := vals_rows rv
    have ln : its.toArray.size = rows.length := by rw [List.size_toArray, e, List.length_map]
    refine set_of_list (I.ok.hd hc) pl.isList (fills_tup (ks := rows.map (rowK κ)) (by rw [List.length_map, ln]) (val its e) tups (by rw [ln]; exact few) (fun p hp z => ?_) units) fun h' tk ⟨L, es, ep, t, S, cv⟩ kk => q h' tk L es ep t S (by rw [← ln]; exact cv) kk
    obtain ⟨o, _, n, g, c, _⟩ := tups p hp
    obtain ⟨o2, g2, c2, _⟩ := pl.isList
    rw [z, g2] at g
    have e2 := Option.some.inj g
    rw [← e2] at c
    exact absurd (Value.type.inj (c2.symm.trans c)) (by decide)
  · obtain ⟨its, rv, pl, hz⟩ := I.tuple hq
    have e := vals_rows rv
    have ln : its.toArray.size = rows.length := by rw [List.size_toArray, e, List.length_map]
    refine set_of_tuple (I.ok.hd hc) (show s.heap.IsTuple l its.toArray from pl) (fills_tup (ks := rows.map (rowK κ)) (by rw [List.length_map, ln]) (val its e) tups (by rw [ln]; exact few) (fun p hp z => ?_) units) fun h' tk ⟨L, es, ep, t, S, cv⟩ kk => q h' tk L es ep t S (by rw [← ln]; exact cv) kk
    obtain ⟨o, jts, n, g, c, d, it⟩ := tups p hp
    obtain ⟨o2, g2, c2, n2, d2⟩ := (show s.heap.IsTuple l its.toArray from pl)
    rw [z, g2] at g
    cases g
    rw [d2] at d
    cases d
    obtain ⟨r, hr, rfl⟩ := List.mem_map.mp hp
    obtain ⟨k, kr, ek⟩ := κ.ne r.2
    cases rows with
    | nil => cases hr
    | cons r0 rs =>
      rw [show (rowK κ r).2 = k :: kr from ek, e] at it
      cases it with
      | cons h1 _ => rcases keyIs_shape (show keyIs k _ = true from h1) with ⟨i, t, _, z⟩ | ⟨i, t, _, z⟩ <;> cases z
/-- what the members are -/
structure Mems {α : Type} (rows bs : List (Addr × α)) : Prop where
  sub : ∀ b ∈ bs, b ∈ rows
  nd : (bs.map (·.2)).Nodup
  all : ∀ c, c ∈ rows.map (·.2) → c ∈ bs.map (·.2)
theorem mems_of {α : Type} [DecidableEq α] [PySem.W.DatumOrd α] (κ : TKn α) {rows bs : List (Addr × α)} {L : List Row} (e : (bs.map (rowK κ)).Perm L) (sub : ∀ b ∈ bs, b ∈ rows) (nd : (L.map (·.2)).Nodup) (cv : CovT (rows.map (rowK κ)) rows.length L) : Mems rows bs := by
  have em : (bs.map fun b => κ.ks b.2).Perm (L.map (·.2)) := by
    have z := e.map (·.2)
    rwa [List.map_map] at z
  refine ⟨sub, ?_, fun c hc => ?_⟩
  · have n2 : ((bs.map (·.2)).map κ.ks).Nodup := by rw [List.map_map]; exact em.nodup_iff.mpr nd
    exact nodup_of_map _ n2
  · obtain ⟨r, hr, rfl⟩ := List.mem_map.mp hc
    have m : rowK κ r ∈ (rows.map (rowK κ)).take rows.length := by
      rw [List.take_of_length_le (by rw [List.length_map]; exact Nat.le_refl _)]
      exact List.mem_map_of_mem hr
    have z := em.mem_iff.mpr (cv.all _ m)
    obtain ⟨b, hb, eb⟩ := List.mem_map.mp z
    exact List.mem_map.mpr ⟨b, hb, κ.inj _ _ eb⟩
theorem cov_sub {α : Type} [DecidableEq α] [PySem.W.DatumOrd α] (κ : TKn α) {rows : List (Addr × α)} {L : List Row} (cv : CovT (rows.map (rowK κ)) rows.length L) : ∀ p ∈ L, ∃ r ∈ rows, rowK κ r = p := fun p hp => by
  obtain ⟨r, hr, e⟩ := List.mem_map.mp (List.mem_of_mem_take (cv.sub p hp))
  exact ⟨r, hr, e⟩
/-- len(set(x)) -/
def tLenT {α : Type} [DecidableEq α] [PySem.W.DatumOrd α] (K : PySem.W.Frag) (κ : TKn α) (ta : TE) : TE := fun σ H Q => ta σ H fun x H1 => ∃ (l : Addr) (rows : List (Addr × α)), x = .ref l ∧ (SqL K H1 l (rows.map fun p => V.ref p.1) ∨ SqT K H1 l (rows.map fun p => V.ref p.1)) ∧
  (∀ p ∈ rows, SqT K H1 p.1 ((κ.ks p.2).map kV)) ∧ rows.length < 63 ∧ ∀ bs, Mems rows bs → Q (.int (bs.length : Nat)) H1
theorem pe_lenT {α : Type} [DecidableEq α] [PySem.W.DatumOrd α] (κ : TKn α) {a : Expr} {ta : TE} {p p2 q pos : Pos} (hc : X.calm = true) (hu : X.A.units + 64 < cLine) (hg : Gl X "len") (hm : X.mg "len" = none) (hg2 : Gl X "set") (hm2 : X.mg "set" = none) (ha : PE X a ta)
    (na : starEach [a] X.env = (false, eval a X.env) :: starEach [] X.env := by rfl) : PE X (.Call (.Name "len" p) [.Call (.Name "set" p2) [a] [] q] [] pos) (tLenT X.K κ ta) := by
  refine ⟨fun pins s σ H Q I h => Call_ (ld_blt I hg hm boot_len (PyProof.Rows.callWith_builtin1 (PyProof.Rows.args_cons ?_ rfl) rfl rfl))⟩
  refine Call_ (ld_blt I hg2 hm2 boot_set (PyProof.Rows.callWith_type1 (PyProof.Rows.args_cons (thn (ha.run pins s σ H _ I h) fun v s1 ⟨x, H1, I1, r1, q1⟩ => PyProof.Rows.args_nil ?_) na) na rfl))
  obtain ⟨l, rows, rfl, hq, ht, few, qq⟩ := q1
  cases r1
  refine call_setT κ I1 hc hu hq ht few fun h' tk L es ep t S cv kk => PyProof.Rows.args_nil ?_
  obtain ⟨o, g, ex, d⟩ := S.ob
  have el := rows_len S.rows
  have fw := S.few
  obtain ⟨bs, e0, in0⟩ := lift_map (rowK κ) rows L (cov_sub κ cv)
  have lb : bs.length = es.size := by rw [el, ← e0, List.length_map]
  have I2 : Inv X pins σ H1 { s1 with heap := h', toks := tk } := I1.kept fun b o e => kk b o (Heap.lt_size e) e
  exact call_len_set g ex d (SetQ.fits (s := { s1 with heap := h', toks := tk }) S) (by omega) ⟨.int (bs.length : Nat), H1, I2.tok _, ⟨_, by rw [lb]⟩, qq bs (mems_of κ (.of_eq e0) in0 S.nd cv)⟩
/-- sorted(set(x)) -/
def tSortT {α : Type} [DecidableEq α] [PySem.W.DatumOrd α] (K : PySem.W.Frag) (κ : TKn α) (ta : TE) : TE := fun σ H Q => ta σ H fun x H1 => ∃ (l : Addr) (rows : List (Addr × α)), x = .ref l ∧ (SqL K H1 l (rows.map fun p => V.ref p.1) ∨ SqT K H1 l (rows.map fun p => V.ref p.1)) ∧
  (∀ p ∈ rows, SqT K H1 p.1 ((κ.ks p.2).map kV)) ∧ rows.length < 63 ∧ ∀ bs p, Mems rows bs → bs.Pairwise (fun x y => PySem.W.DatumOrd.lt y.2 x.2 = false) → H1 p = none → Q (.ref p) (upd H1 p (.lst (bs.map fun r => V.ref r.1)))
theorem pe_sortT {α : Type} [DecidableEq α] [PySem.W.DatumOrd α] (κ : TKn α) {a : Expr} {ta : TE} {p p2 q pos : Pos} (hc : X.calm = true) (hu : X.A.units + 64 < cLine) (hg : Gl X "sorted") (hm : X.mg "sorted" = none) (hg2 : Gl X "set") (hm2 : X.mg "set" = none) (ha : PE X a ta)
    (na : starEach [a] X.env = (false, eval a X.env) :: starEach [] X.env := by rfl) : PE X (.Call (.Name "sorted" p) [.Call (.Name "set" p2) [a] [] q] [] pos) (tSortT X.K κ ta) := by
  refine ⟨fun pins s σ H Q I h => Call_ (ld_blt I hg hm boot_sorted (PyProof.Rows.callWith_builtin1 (PyProof.Rows.args_cons ?_ rfl) rfl rfl))⟩
  refine Call_ (ld_blt I hg2 hm2 boot_set (PyProof.Rows.callWith_type1 (PyProof.Rows.args_cons (thn (ha.run pins s σ H _ I h) fun v s1 ⟨x, H1, I1, r1, q1⟩ => PyProof.Rows.args_nil ?_) na) na rfl))
  obtain ⟨l, rows, rfl, hq, ht, few, qq⟩ := q1
  cases r1
  refine call_setT κ I1 hc hu hq ht few fun h' tk L es ep t S cv kk => PyProof.Rows.args_nil ?_
  have I2 : Inv X pins σ H1 { s1 with heap := h', toks := tk } := I1.kept fun b o e => kk b o (Heap.lt_size e) e
  refine sorted_tup (s := { s1 with heap := h', toks := tk }) κ S (I1.ok.hd hc) (by omega) (cov_sub κ cv) fun s2 p c bs k hp g o at_ pm sub pw lz => ?_
  have hn : H1 p = none := I2.hok.fresh hp
  have vb : ∀ l : List (Addr × α), Vals (l.map fun r => V.ref r.1) (l.map fun r => Value.ref r.1) := fun l => by
    induction l with
    | nil => exact .nil
    | cons r l ih => exact .cons rfl ih
  have J : Inv X pins σ (upd H1 p (.lst (bs.map fun r => V.ref r.1))) { ({ s1 with heap := h', toks := tk } : Shared) with heap := s2.heap, gens := s2.gens, drawn := s2.drawn, toks := s2.toks } :=
    I2.call (ch := []) (Un.laid k hp hn) (I2.hok.laid k hp ⟨by rw [List.length_map]; exact lz, _, c, vb bs, at_⟩) (by rw [g]; exact I2.bare) (fun _ z => nomatch z)
  have e : s2 = { ({ s1 with heap := h', toks := tk } : Shared) with heap := s2.heap, gens := s2.gens, drawn := s2.drawn, toks := s2.toks } := by
    obtain ⟨_, _, _, _, _⟩ := s2
    obtain ⟨_, _, _, _, _⟩ := s1
    cases o
    rfl
  rw [e]
  exact ⟨.ref p, _, J, rfl, qq bs p (mems_of κ pm sub S.nd cv) pw hn⟩
end
end Ss
namespace Ss
open PySem PySem.Spec PyProof.Rows L2 Sw RT
/-! ### reversed(text) -/
theorem str_norev : typeLookup (.type "str") "__reversed__" = pure none := by rw [typeLookup_type, builtinLookup_eq_fast]; kernel_rfl
theorem str_getit : typeLookup (.type "str") "__getitem__" = pure (some (.builtin "str.__getitem__")) := by rw [typeLookup_type, builtinLookup_eq_fast]; kernel_rfl
def rsObj (z : Str) (tk : Tok) (i : Int) : Obj := { cls := .type "reversed", data := .fields #[.str z tk, rawInt i] }
def IsRs (h : Heap) (a : Addr) (z : Str) (tk : Tok) (i : Int) : Prop := ∃ o, h.get? a = some o ∧ o.cls = .type "reversed" ∧ o.data = .fields #[.str z tk, rawInt i]
theorem IsRs.keep {h h' : Heap} {a : Addr} {z : Str} {tk : Tok} {i : Int} (x : IsRs h a z tk i) (e : ∀ o, h.get? a = some o → h'.get? a = some o) : IsRs h' a z tk i := let ⟨o, g, r⟩ := x; ⟨o, e _ g, r⟩
section
variable {P : Program} {w : World} {A : Around} {E : Value → Shared → Prop} {s : Shared} {z : Str} {tk : Tok}
theorem IsRs.ty {a : Addr} {i : Int} (x : IsRs s.heap a z tk i) : s.TypeIs (.ref a) "reversed" := let ⟨o, g, c, _⟩ := x; ⟨o, g, c⟩
theorem rev_made {Q : Value → Shared → Prop} (hz : z.length < 2 ^ 62) (q : ∀ t, Q (.ref s.heap.objs.size) { s with heap := s.heap.push (rsObj z tk ((z.length : Int) - 1)), toks := t }) :
    codeAny (model P w) A (.call (.builtin "reversed.__new__") ⟨[.type "reversed", .str z tk], []⟩) (wants Q E) s := by
  have ty : s.TypeIs (.str z tk) "str" := typeIs_str s z tk
  refine codeAny_of_tree (show wpAny _ A.in1 (checkBuiltinCall "reversed.__new__" ⟨[.type "reversed", .str z tk], []⟩ >>= fun _ => again (.builtin "reversed.__new__" ⟨[.type "reversed", .str z tk], []⟩)) _ _ s from ?_)
  refine wpAny_bind (wpAny_of_eq (F.newCall_reversed_1 _) (wpAny_pure ⟨plainId_quiet F.plain_reversed_new _, codeAny_builtin F.entry_reversed_new ?_⟩))
  rw [Around.under_plainId F.plain_reversed_new _]
  unfold Builtin.«reversed.__new__»
  refine wpAny_bind (wpAny_of_eq (newClass_reversed _) ?_)
  try dsimp only
  refine wpAny_bind (wpAny_of_eq (a := ()) (by first | rfl | kernel_rfl) ?_)
  try dsimp only
  refine wpAny_bind (wpAny_of_eq (a := ()) (by first | rfl | kernel_rfl) ?_)
  try dsimp only
  refine wpAny_bind (wpAny_specialOf ty str_norev ?_)
  try dsimp only
  refine wpAny_bind ?_
  wp_delta
  refine wpAny_bind (wpAny_isInstance (T := "str") (U := "dict") (b := false) ty PySem.F.sub_str_dict ?_)
  try dsimp only
  try rw [if_neg Bool.false_ne_true]
  try dsimp only
  refine wpAny_bind (wpAny_specialOf ty str_getit ?_)
  try dsimp only
  try rw [if_pos (by decide +kernel)]
  refine wpAny_pure ?_
  try dsimp only
  try rw [if_neg (by decide)]
  try dsimp only
  refine wpAny_bind (len_str (by omega) ?_)
  refine wpAny_bind (wpAny_of_eq (a := some ((z.length : Nat) : Int)) rfl ?_)
  try dsimp only
  refine wpAny_bind ?_
  show wpAny _ _ (newObj (.type "reversed") (.fields #[.str z tk, rawInt ((z.length : Int) - 1)])) _ _ _
  refine wpAny_newObj_type ?_
  exact wpAny_pure (q _)
theorem rev_call {Q : Value → Shared → Prop} (hz : z.length < 2 ^ 62) (q : ∀ t, Q (.ref s.heap.objs.size) { s with heap := s.heap.push (rsObj z tk ((z.length : Int) - 1)), toks := t }) : wpAny (model P w) A (call (.type "reversed") [.str z tk]) Q E s := by
  refine callType_codes (Q₁ := fun ob s₁ => s₁.TypeIs ob "reversed" ∧ Q ob s₁) called_rt (F.typeCall_reversed_1 _) F.entry_object_init (rev_made (A := A.in1) hz fun t => ⟨⟨_, Heap.get?_push_size _ rfl, rfl⟩, q t⟩) fun ob s₁ h₁ => ?_
  exact ⟨h₁.1, F.args_object_init_2 ob _, object_init_meets called_rt.init.lookup called_rt.made (by decide) P w A.in1 _ s₁ ⟨h₁.1, rfl, h₁.2⟩⟩
theorem rs_iter {a : Addr} {i : Int} {Q : Value → Shared → Prop} (x : IsRs s.heap a z tk i) (q : Q (.ref a) s) : wpAny (model P w) A (pyIter (.ref a)) Q E s := by
  refine wpAny_pyIter_slot x.ty slot_rt_iter (wpAny_call_entry slot_rt_iter x.ty entry_rt_iter (show wpAny _ _ (ret (.ref a)) _ _ s from ?_) (args_rt_iter _))
  exact wpAny_pure ⟨_, rfl, "reversed", _, x.ty, slot_rt_next.lookup, q⟩
theorem rs_next {a : Addr} {i c : Nat} {Q : Option Value → Shared → Prop} (x : IsRs s.heap a z tk (i : Int)) (hc : z.cps.toList[i]? = some c) (hz : z.length < 2 ^ 62)
    (q : ∀ h' t u, IsRs h' a z tk ((i : Int) - 1) → Heap.SameBut a s.heap h' → Q (some (.str ⟨#[c]⟩ u)) { s with heap := h', toks := t }) : wpAny (model P w) A (pyNext (.ref a)) Q E s := by
  obtain ⟨o, g, cl, d⟩ := id x
  have hi : i < z.length := by
    have := (List.getElem?_eq_some_iff.mp hc).1
    simpa [Str.length] using this
  have ty : s.TypeIs (.str z tk) "str" := typeIs_str s z tk
  unfold pyNext
  refine wpAny_bind (wpAny_attempt (wpAny_callSpecial?_slot (name := Str.ofString "__next__") x.ty slot_rt_next (wpAny_call_entry slot_rt_next x.ty entry_rt_next ?_ (args_rt_next _))))
  unfold Builtin.«reversed.__next__»
  refine wpAny_bind (wpAny_of_eq (a := (Value.ref a, [])) rfl ?_)
  try dsimp only
  refine wpAny_bind (wpAny_field g d (x := .str z tk) rfl ?_)
  try dsimp only
  refine wpAny_bind (wpAny_field g d (x := rawInt (i : Int)) rfl ?_)
  refine (show wpAny _ _ (if (i : Int) < 0 then _ else _) _ _ s from ?_)
  rw [if_neg (by omega)]
  try dsimp only
  refine wpAny_bind (wpAny_specialOf ty str_getit ?_)
  try dsimp only
  try rw [if_neg (by decide)]
  try dsimp only
  refine wpAny_bind (wpAny_mkInt ?_)
  refine wpAny_bind (wpAny_attempt ?_)
  have e1 : decide ((i : Int) < -(2 ^ 63 : Int)) = false := decide_eq_false (by omega)
  have e2 : decide ((i : Int) ≥ 2 ^ 63) = false := decide_eq_false (by omega)
  refine getItem_str (s := { s with toks := s.toks + 1 }) (by rw [e1, e2]; rfl) (by rw [seqIndex_of (by omega) (by omega)]; simpa using hc) ?_
  try dsimp only
  refine wpAny_bind (wpAny_field (s := { s with toks := s.toks + 1 + 1 }) g d (x := rawInt (i : Int)) rfl ?_)
  try dsimp only
  refine wpAny_bind (wpAny_setField (s := { s with toks := s.toks + 1 + 1 }) g d (by simp) ?_)
  first
  | refine wpAny_pure ⟨_, rfl, wpAny_pure (q _ _ _ ?_ (Heap.SameBut.update ..))⟩
  | refine wpAny_bind (wpAny_pure (wpAny_pure ⟨_, rfl, wpAny_pure (q _ _ _ ?_ (Heap.SameBut.update ..))⟩))
  exact ⟨_, Heap.get?_update_self _ g (Obj.isFreed_of_fields (Obj.data_mapFields d _)), (Obj.cls_mapFields ..).trans cl, by
    rw [Obj.data_mapFields d]; simp⟩
theorem rs_end {a : Addr} {Q : Option Value → Shared → Prop} (hh : A.handled = none) (x : IsRs s.heap a z tk (-1)) (q : ∀ h', Heap.ExtBut a s.heap h' → Q none { s with heap := h' }) : wpAny (model P w) A (pyNext (.ref a)) Q E s := by
  obtain ⟨o, g, cl, d⟩ := id x
  unfold pyNext
  refine wpAny_bind (wpAny_attempt (wpAny_callSpecial?_slot (name := Str.ofString "__next__") x.ty slot_rt_next (wpAny_call_entry slot_rt_next x.ty entry_rt_next ?_ (args_rt_next _))))
  unfold Builtin.«reversed.__next__»
  refine wpAny_bind (wpAny_of_eq (a := (Value.ref a, [])) rfl ?_)
  try dsimp only
  refine wpAny_bind (wpAny_field g d (x := .str z tk) rfl ?_)
  try dsimp only
  refine wpAny_bind (wpAny_field g d (x := rawInt (-1)) rfl ?_)
  refine (show wpAny _ _ (if (-1 : Int) < 0 then _ else _) _ _ s from ?_)
  rw [if_pos (by decide)]
  try dsimp only
  refine wpAny_bind (wpAny_rule ?_)
  refine wpAny_bind ?_
  wp_delta
  refine wpAny_bind (wpAny_setField g d (by simp) ?_)
  have g2 := Heap.get?_update_self (Obj.mapFields (·.setIfInBounds 1 (rawInt (-1)))) g (Obj.isFreed_of_fields (Obj.data_mapFields d _))
  refine wpAny_setField (s := { s with heap := s.heap.update a (Obj.mapFields (·.setIfInBounds 1 (rawInt (-1)))) }) g2 (Obj.data_mapFields d _) (by simp) ?_
  try dsimp only
  first
  | show wpAny _ _ (newExc (.type "StopIteration") [] >>= _) _ _ _
  | (refine wpAny_bind ?_; show wpAny _ _ (newExc (.type "StopIteration") [] >>= _) _ _ _)
  | (refine wpAny_bind ?_; wp_delta; show wpAny _ _ (newExc (.type "StopIteration") [] >>= _) _ _ _)
  refine wpAny_bind ?_
  simp only [newExc, newTuple]
  refine wpAny_bind (wpAny_newObj_type ?_ (by size_fits))
  refine wpAny_bind (m := firstArgMember _ _) (wpAny_of_eq (a := Value.none) (by first | rfl | (simp only [firstArgMember]; rfl)) ?_)
  refine wpAny_newObj_type ?_ (by size_fits)
  simp only [raiseNew]
  refine wpAny_bind (wpAny_handled ?_)
  first | rw [show A.in1.handled = none from hh] | rw [hh]
  refine wpAny_bind (wpAny_pure (wpAny_throw ?_))
  refine wpAny_bind (wpAny_isInstance (T := "StopIteration") (b := true) ⟨_, Heap.get?_push_size _ rfl, rfl⟩ isSubtype_stop ?_)
  refine wpAny_pure (q _ ?_)
  refine ((?_ : Heap.ExtBut a s.heap _).push _).push _
  exact fun b ob hb e => (Heap.get?_update_other _ _ (Ne.symm hb)).trans ((Heap.get?_update_other _ _ (Ne.symm hb)).trans e)
end
/-- the walk -/
def Itr (z : Str) : It := ⟨fun i _ => i < z.length, fun i H x H' => H' = H ∧ ∃ c, z.cps.toList[z.length - 1 - i]? = some c ∧ x = .str ⟨#[c]⟩, fun i _ => z.length ≤ i⟩
theorem turn_rs {P : Program} {w : World} {K : PySem.W.Frag} {tg : Expr} (it : Addr) (z : Str) (tk : Tok) (hz : z.length < 2 ^ 62) : Turn P w K tg (Itr z) [it] it (fun i h => i ≤ z.length ∧ IsRs h it z tk ((z.length : Int) - 1 - (i : Nat))) where
  mem := by simp
  obj := fun i h st b hb => by
    have e : b = it := by simpa using hb
    subst e
    obtain ⟨_, o, e, c, d⟩ := st
    exact ⟨o, e, fun v y => by rw [d] at y; cases y⟩
  keep := fun i h h' st k => ⟨st.1, st.2.keep fun o e => k it (by simp) o e⟩
  item := by
    intro X hP hw hK hc i pins s σ H E I hf st hg
    subst hP hw hK
    have hg : i < z.length := hg
    obtain ⟨f0, f1, f2, f3, f4, f5⟩ := hf it (by simp)
    obtain ⟨_, x⟩ := st
    have e1 : (z.length : Int) - 1 - ((i : Nat) : Int) = ((z.length - 1 - i : Nat) : Int) := by omega
    rw [e1] at x
    have hl : z.cps.toList.length = z.length := by simp [Str.length]
    have hc2 : z.cps.toList[z.length - 1 - i]? = some (z.cps.toList[z.length - 1 - i]'(by omega)) := List.getElem?_eq_getElem _
    refine rs_next x hc2 hz fun h' t u st' sb => ?_
    have e2 : ((z.length - 1 - i : Nat) : Int) - 1 = (z.length : Int) - 1 - ((i + 1 : Nat) : Int) := by omega
    rw [e2] at st'
    have I1 : Inv X pins σ H { s with heap := h', toks := t } := I.turned (t' := t) (fun b o hb e => (sb.2 b hb).trans e) f0 f1 f3 f4 f5
    obtain ⟨o, e, c, d⟩ := id st'
    exact ⟨_, rfl, go_of (s := { s with heap := h', toks := t }) e c d (by decide) ⟨.str ⟨#[_]⟩, H, I1, ⟨u, rfl⟩, ⟨rfl, _, hc2, rfl⟩, ⟨hg, st'⟩, fun b hb => (hf b hb).1⟩⟩
  done := by
    intro X hP hw hK hc i pins s σ H E I hf st hg
    subst hP hw hK
    obtain ⟨f0, f1, f2, f3, f4, f5⟩ := hf it (by simp)
    obtain ⟨hin, x⟩ := st
    have hge : z.length ≤ i := hg
    have e1 : (z.length : Int) - 1 - ((i : Nat) : Int) = -1 := by omega
    rw [e1] at x
    exact rs_end (I.ok.hd hc) x fun h' eb => ⟨rfl, I.turned (t' := s.toks) (fun b o hb e => eb b o hb e) f0 f1 f3 f4 f5⟩
  self := fun A i s Q E st h => rs_iter st.2 h
section
variable {X : Cx} {tg : Expr}
theorem pi_revS {e : Expr} {te : TE} {p pos : Pos} (hg : Gl X "reversed") (hm : X.mg "reversed" = none) (he : PE X e te) (hs : starEach [e] X.env = (false, eval e X.env) :: starEach [] X.env := by rfl) :
    PI X tg (.Call (.Name "reversed" p) [e] [] pos) (fun σ H R => te σ H fun v H1 => ∃ z : Str, v = .str z ∧ z.length < 2 ^ 62 ∧ R (Itr z) H1) := by
  refine ⟨fun pins s σ H R I h => ?_⟩
  refine Call_ (ld_blt I hg hm PyProof.Rows.boot_reversed (PyProof.Rows.callWith_type1 (args_cons (thn (he.run pins s σ H _ I h) fun u s1 ⟨v, H1, I1, r1, z, ev, hz, q⟩ => args_nil ?_) hs) hs rfl))
  subst ev
  obtain ⟨tk, rfl⟩ := r1
  refine rev_call hz fun t => rs_iter (z := z) (tk := tk) (i := (z.length : Int) - 1) ⟨_, Heap.get?_push_size _ rfl, rfl, rfl⟩ ?_
  refine pi_one (tk := t) I1 _ (turn_rs _ z tk hz) ⟨Nat.zero_le _, ?_⟩ q
  refine ⟨_, Heap.get?_push_size _ rfl, rfl, ?_⟩
  show Data.fields #[.str z tk, rawInt ((z.length : Int) - 1)] = Data.fields #[.str z tk, rawInt ((z.length : Int) - 1 - ((0 : Nat) : Int))]
  simp
theorem walk_revS {z : Str} : Walk (Itr z) z.length (fun _ => True) (fun i H x H' => H' = H ∧ ∃ c, z.cps.toList[z.length - 1 - i]? = some c ∧ x = .str ⟨#[c]⟩) := ⟨fun i H hi _ => hi, fun H _ => Nat.le_refl _, fun i H v H' _ _ h => h⟩
end
end Ss
namespace Ss
open PySem PySem.Spec PyProof.Rows L2 Sw
/-! ### d.get(tuple of ints, texts and None) -/
def hNone : Int := 0xFCA86420
theorem pyHash_nil {prog : Program} {w : World} {A : Around} {E : Value → Shared → Prop} {s : Shared} {Q : Int → Shared → Prop} (h : Q hNone { s with toks := s.toks + 1 }) : wpAny (model prog w) A (pyHash .none) Q E s := by
  have ty : s.TypeIs .none "NoneType" := rfl
  unfold pyHash
  refine wpAny_bind ?_
  rw [cRoomFor, if_neg (by rw [show [Value.none].any Value.onHeap = false from rfl]; exact Bool.false_ne_true)]
  refine wpAny_pure (wpAny_bind (wpAny_specialOf ty PySem.F.slot_NoneType_hash.lookup ?_))
  refine (show wpAny _ _ (if (some (Value.builtin "NoneType.__hash__") == some Value.none) = true then _ else _) Q E s from ?_)
  rw [if_neg (by rw [beq_builtin_none]; exact Bool.false_ne_true)]
  refine wpAny_bind (wpAny_specialOf ty PySem.F.slot_NoneType_hash.lookup ?_)
  refine (show wpAny _ _ (callSpecialIfBoundUnlessNone? .none "__hash__" _ >>= _) Q E s from ?_)
  refine wpAny_bind (wpAny_callSpecialIfBoundUnlessNone?_slot ty PySem.F.slot_NoneType_hash (wpAny_call_entry PySem.F.slot_NoneType_hash ty PySem.F.entry_NoneType_hash (show wpAny _ _ (retInt 0xFCA86420) _ _ s from wpAny_bind (wpAny_mkInt (wpAny_pure ⟨_, rfl, ?_⟩))) (PySem.F.args_NoneType_hash_1 _)))
  refine (show wpAny _ _ (if (decide (-(2 : Int) ^ 63 ≤ hNone) && decide (hNone < 2 ^ 63)) = true then _ else _) Q E _ from ?_)
  rw [if_pos (by decide)]
  exact wpAny_pure h
def oIs : Option Key → Value → Bool
  | some k, v => keyIs k v
  | none, .none => true
  | none, _ => false
theorem oIs_shape : ∀ {k : Option Key} {v : Value}, oIs k v = true → (∃ i t, k = some (.inl i) ∧ v = .int i t) ∨ (∃ z t, k = some (.inr z) ∧ v = .str z t) ∨ (k = none ∧ v = .none)
  | some k, v, h => by
    rcases keyIs_shape (show keyIs k v = true from h) with ⟨i, t, rfl, rfl⟩ | ⟨z, t, rfl, rfl⟩
    · exact .inl ⟨i, t, rfl, rfl⟩
    · exact .inr (.inl ⟨z, t, rfl, rfl⟩)
  | none, .none, _ => .inr (.inr ⟨rfl, rfl⟩)
def oHash (w : World) : Option Key → Int
  | some k => keyH w k
  | none => hNone
theorem dec_ss (a b : Key) : decide (some a = some b) = decide (a = b) := by
  by_cases e : a = b
  · subst e; simp
  · rw [decide_eq_false e, decide_eq_false (fun z => e (Option.some.inj z))]
def optKind (prog : Program) (w : World) : PySem.KeyKind prog w (Option Key) where
  is := oIs
  hash := oHash w
  inj := fun v a b ha hb => by
    rcases oIs_shape ha with ⟨i, t, rfl, rfl⟩ | ⟨z, t, rfl, rfl⟩ | ⟨rfl, rfl⟩ <;> rcases oIs_shape hb with ⟨i', t', rfl, e⟩ | ⟨z', t', rfl, e⟩ | ⟨rfl, e⟩ <;> cases e <;> rfl
  byValue := fun k v h => by rcases oIs_shape h with ⟨i, t, rfl, rfl⟩ | ⟨z, t, rfl, rfl⟩ | ⟨rfl, rfl⟩ <;> rfl
  pyHash := fun hv h => by
    rcases oIs_shape hv with ⟨i, t, rfl, rfl⟩ | ⟨z, t, rfl, rfl⟩ | ⟨rfl, rfl⟩
    · exact wpAny_pyHash_int h
    · exact wpAny_pyHash_str h
    · exact pyHash_nil h
  eqBool := fun hu hv h => by
    rcases oIs_shape hu with ⟨i, t, rfl, rfl⟩ | ⟨z, t, rfl, rfl⟩ | ⟨rfl, rfl⟩ <;> rcases oIs_shape hv with ⟨i', t', rfl, rfl⟩ | ⟨z', t', rfl, rfl⟩ | ⟨rfl, rfl⟩
    · rw [dec_ss, key_ll] at h; exact wpAny_eqBool_int h
    · rw [dec_ss, key_lr] at h; exact SeqAt.EqAt.int_str i t z' t' _ _ _ _ h
    · exact SeqAt.EqAt.int_none i t _ _ _ _ h
    · rw [dec_ss, key_rl] at h; exact SeqAt.EqAt.str_int z t i' t' _ _ _ _ h
    · rw [dec_ss, key_rr] at h; exact wpAny_eqBool_str h
    · exact SeqAt.EqAt.str_none z t _ _ _ _ h
    · exact SeqAt.EqAt.none_int i' t' _ _ _ _ h
    · exact SeqAt.EqAt.none_str z' t' _ _ _ _ h
    · exact SeqAt.EqAt.same .none _ _ _ _ h
  «strs» := fun k x t v h => by
    rcases oIs_shape h with ⟨i, u, rfl, e⟩ | ⟨y, u, rfl, e⟩ | ⟨rfl, e⟩
    · cases e
    · cases e
      cases v <;> rfl
    · cases e
section
variable {P : Program} {w : World}
theorem its_opt : ∀ {ks : List Key} {vs : List Value}, ItemsAre (mixKind P w) ks vs → ItemsAre (optKind P w) (ks.map some) vs
  | _, _, .nil => .nil
  | _, _, .cons h t => .cons h (its_opt t)
theorem isk_opt {h : Heap} {k : List Key} {b : Addr} (x : IsTupleKey (mixKind P w) h k b) : IsTupleKey (optKind P w) h (k.map some) b := by
  obtain ⟨o, its, n, g, c, d, i⟩ := x
  exact ⟨o, its, n, g, c, d, its_opt i⟩
theorem hash_opt (k : List Key) : tupleKeyHash (optKind P w) (k.map some) = tupleKeyHash (mixKind P w) k := by
  unfold tupleKeyHash
  rw [List.map_map]; rfl
def upKey (x : List Key × Addr × Value) : List (Option Key) × Addr × Value := (x.1.map some, x.2)
theorem map_some_inj : ∀ {a b : List Key}, a.map some = b.map some → a = b
  | [], [], _ => rfl
  | x :: a, y :: b, e => by
    rw [List.map_cons, List.map_cons] at e
    injection e with e1 e2
    rw [Option.some.inj e1, map_some_inj e2]
theorem dict_opt {h : Heap} {d : Addr} {xs : List (List Key × Addr × Value)} (x : h.DictOfH (tupleKind (mixKind P w)) d xs) : h.DictOfH (tupleKind (optKind P w)) d (xs.map upKey) := by
  obtain ⟨o, es, ep, g, ex, dt, rows, all, nd⟩ := x
  refine ⟨o, es, ep, g, ex, dt, ?_, fun y hy => ?_, ?_⟩
  · rw [rows, List.map_map]
    refine List.map_congr_left fun y hy => ?_
    show entryOfKey (tupleKind (mixKind P w)) y = entryOfKey (tupleKind (optKind P w)) (upKey y)
    unfold entryOfKey upKey
    rw [show (tupleKind (optKind P w)).hash (y.1.map some) = (tupleKind (mixKind P w)).hash y.1 from hash_opt y.1]
  · obtain ⟨z, hz, rfl⟩ := List.mem_map.mp hy
    exact isk_opt (all z hz)
  · have e : (xs.map upKey).map (·.1) = (xs.map (·.1)).map (List.map some) := by rw [List.map_map, List.map_map]; rfl
    rw [e]
    exact List.Pairwise.map _ (fun a b n z => n (map_some_inj z)) nd
theorem at_opt : ∀ (xs : List (List Key × Addr × Value)) (k : List (Option Key)), none ∈ k → atKey (xs.map upKey) k = none := fun xs k hk => by
  have e : ((xs.map upKey).find? fun x => decide (x.1 = k)) = none := by
    rw [List.find?_eq_none]
    intro x hx z
    obtain ⟨y, hy, rfl⟩ := List.mem_map.mp hx
    have z : y.1.map some = k := of_decide_eq_true z
    rw [← z] at hk
    obtain ⟨j, _, e⟩ := List.mem_map.mp hk
    cases e
  simp [atKey, e]
end
def oV : Option Key → V
  | some k => kV k
  | none => .non
theorem its_o {P : Program} {w : World} : ∀ {k : List (Option Key)} {us : List Value}, Vals (k.map oV) us → ItemsAre (optKind P w) k us
  | [], _, r => by cases r; exact .nil
  | some k :: ks, _, r => by
    cases r with
    | cons h t => exact .cons (kV_is (P := P) (w := w) h) (its_o t)
  | none :: ks, _, r => by
    cases r with
    | cons h t =>
      cases h
      exact .cons rfl (its_o t)
section
variable {X : Cx}
/-- not there: a key with None in it -/
theorem d_getN {pins : List (Addr × Obj)} {σ : L2.St} {H : Hp} {s : Shared} {a b : Addr} {A : Around} {E : Value → Shared → Prop} {kvs : List (List Key × V)} {k : List (Option Key)} {Q : Value → Shared → Prop} (hu : A.units + 1 < cLine) (I : Inv X pins σ H s) (e : H a = some (.dT kvs)) (eb : SqT X.K H b (k.map oV)) (hk : none ∈ k)
    (q : ∀ s', Inv X pins σ H s' → Q .none s') : wpAny (model X.prog X.w) A (call (.builtin "dict.get") [.ref a, .ref b]) Q E s := by
  obtain ⟨z, hd, xs, rel, dd⟩ := dt_rd I.hok (.inl e)
  have key : IsTupleKey (optKind X.prog X.w) s.heap k b := by
    obtain ⟨its, r, pl, _⟩ := I.tuple eb
    obtain ⟨o, ho, hc, n, hd⟩ := pl
    exact ⟨o, its.toArray, n, ho, hc, hd, by simpa using its_o r⟩
  refine call_meetsIn PySem.F.slot_dict_get dd.typeIs PySem.F.entry_dict_get (PySem.F.args_dict_get_2 _ _) (meetsH_dict_get (tupleKind (optKind X.prog X.w)) a b hd) ⟨tupleKind_room_in1 hu, k, _, key, dict_opt dd, ?_⟩
  rw [at_opt xs k hk]
  exact q _ (I.tok _)
/-- d.get(y): y a tuple of ints, texts and None -/
def tGetN (K : PySem.W.Frag) (td ty : TE) : TE := fun σ H Q => td σ H fun x H1 => ∃ a kvs, x = .ref a ∧ H1 a = some (.dT kvs) ∧ ty σ H1 fun y H2 => H2 a = some (.dT kvs) ∧ ∃ b, y = .ref b ∧ ((∃ k : List Key, H2 b = some (.tup (k.map kV)) ∧ Q ((valV kvs k).getD .non) H2) ∨ ∃ k : List (Option Key), SqT K H2 b (k.map oV) ∧ none ∈ k ∧ Q .non H2)
theorem pe_getN {o e : Expr} {apos cpos : Pos} {td ty : TE} (hu : X.A.units + 1 < cLine) (ho : PE X o td) (he : PE X e ty) (m : M1 X o "get" apos e cpos) : PE X (.Call (.Attribute o "get" apos) [e] [] cpos) (tGetN X.K td ty) := by
  refine ⟨fun pins s σ H Q I h => ?_⟩
  refine wpAny_Call_method m.base m.few m.line PySem.F.plainAttrs_dict PySem.F.slot_dict_get PySem.F.type_dict_get (thn (ho.run pins s σ H _ I h) fun u s1 ⟨x, H1, I1, rx, a, kvs, ex, ha, q1⟩ => ?_)
  subst ex
  obtain rfl : u = Value.ref a := rx
  obtain ⟨t1, t2, _⟩ := isD_at I1 (.inr ⟨kvs, .inl ha⟩)
  refine ⟨t1, t2, ?_⟩
  rw [m.trees]
  refine Calls.callWith_builtin rfl (Calls.evalArgs_plain (Calls.spliced_cons (thn (he.run pins s1 σ H1 _ I1 q1) fun iv s2 ⟨y, H2, I2, ry, ha2, b, ey, q2⟩ => Calls.spliced_nil ?_)))
  subst ey
  rcases q2 with ⟨k, eb, q2⟩ | ⟨k, eb, hk, q2⟩
  · exact d_get1 hu I2 (.t ha2 eb) ry fun w' s3 I3 rw' => ⟨_, H2, I3, rw', q2⟩
  · cases ry
    exact d_getN hu I2 ha2 eb hk fun s3 I3 => ⟨.non, H2, I3, rfl, q2⟩
end
end Ss
namespace Ss
open PySem PySem.Spec PyProof.Rows L2 Sw
/-! ### tuple[::-1], text[::-1] -/
theorem places_back (n : Nat) : Builtin.Slice.slicePlaces ((n : Int) - 1) (-1) (-1) = n := by
  unfold Builtin.Slice.slicePlaces
  rw [if_neg (by decide)]
  by_cases h : (n : Int) - 1 > -1
  · rw [if_pos h, show (-(-1) : Int) = 1 by decide, Int.ediv_one]; omega
  · rw [if_neg h]; omega
theorem fm_congr {α β : Type} {f g : α → Option β} : ∀ {l : List α}, (∀ a ∈ l, f a = g a) → l.filterMap f = l.filterMap g
  | [], _ => rfl
  | a :: l, h => by
    have ih := fm_congr (f := f) (g := g) (l := l) fun b hb => h b (List.mem_cons_of_mem _ hb)
    have e := h a (List.mem_cons_self ..)
    rw [List.filterMap_cons, List.filterMap_cons, e, ih]
theorem pick_back (xs : Array Value) : ((List.range xs.size).filterMap fun (k : Nat) => xs[(((xs.size : Int) - 1) + (k : Int) * (-1)).toNat]?) = xs.toList.reverse := by
  have e : ((List.range xs.size).filterMap fun (k : Nat) => xs[(((xs.size : Int) - 1) + (k : Int) * (-1)).toNat]?) = ((List.range xs.size).map fun k => xs.size - 1 - k).filterMap (xs[·]?) := by
    rw [List.filterMap_map]
    refine fm_congr fun k hk => ?_
    have := List.mem_range.mp hk
    show xs[(((xs.size : Int) - 1) + (k : Int) * (-1)).toNat]? = xs[xs.size - 1 - k]?
    have e : (((xs.size : Int) - 1) + (k : Int) * (-1)).toNat = xs.size - 1 - k := by omega
    rw [e]
  rw [e, PySem.W.krv_range, List.filterMap_reverse, PySem.W.krv_all]
section
variable {prog : Program} {w : World} {A : Around} {E : Value → Shared → Prop} {s : Shared}
theorem applied_rev {sl : Addr} {vk : Value} {n : Nat} {Q : Int × Int × Nat → Shared → Prop} (hs : s.heap.IsSliceOf sl .none .none vk) (hk : IsPart vk (some (-1))) (q : Q ((n : Int) - 1, -1, n) s) : wpAny (model prog w) A (Builtin.Slice.sliceApplied (.ref sl) (pure (n : Int))) Q E s := by
  obtain ⟨os, g, c, d⟩ := id hs
  unfold Builtin.Slice.sliceApplied Builtin.Slice.sliceFields
  refine wpAny_bind (wpAny_bind (wpAny_field g d (x := .none) rfl (wpAny_bind (wpAny_field g d (x := .none) rfl (wpAny_bind (wpAny_field g d (x := vk) rfl (wpAny_pure ?_)))))))
  refine wpAny_bind (HT.slicePart_ hk ?_)
  refine (show wpAny (model prog w) _ (if ((-1 : Int) == 0) = true then _ else _) _ _ s from ?_)
  rw [if_neg (show ¬ ((-1 : Int) == 0) = true by decide)]
  refine wpAny_bind (HT.slicePart_ .none (wpAny_bind (HT.slicePart_ .none (wpAny_bind (wpAny_pure ?_)))))
  refine wpAny_pure ?_
  show Q ((n : Int) - 1, -1, Builtin.Slice.slicePlaces ((n : Int) - 1) (-1) (-1)) s
  rw [places_back]; exact q
theorem tup_rev {t sl : Addr} {xs : Array Value} {vk : Value} {Q : Value → Shared → Prop} (ht : IsTup s.heap t xs) (hs : s.heap.IsSliceOf sl .none .none vk) (hk : IsPart vk (some (-1))) (hz : xs.size ≤ sizeLine)
    (q : Q (.ref s.heap.objs.size) { s with heap := s.heap.push { cls := .type "tuple", data := .seq xs.toList.reverse.toArray } }) : wpAny (model prog w) A (getItem (.ref t) (.ref sl)) Q E s := by
  obtain ⟨os, g, c, d⟩ := id hs
  have ty : s.TypeIs (.ref sl) "slice" := ⟨os, g, c⟩
  unfold getItem
  try with_reducible refine wpAny_holding ?_
  first | refine wpAny_bind (wpAny_pure ?_) | skip
  refine wpAny_bind (wpAny_sequenceKey ht.typeIs (by decide) ?_)
  refine wpAny_bind (wpAny_callSpecial?_slot (name := Str.ofString "__getitem__") ht.typeIs PyProof.Rows.slot_tuple_getitem (wpAny_call_entry PyProof.Rows.slot_tuple_getitem ht.typeIs entry_tuple_getitem ?_ (args_tuple_getitem _ _)))
  refine (show wpAny (model prog w) _ (Builtin.Tuple.tupleItemsOf (.ref t) >>= _) _ _ s from wpAny_bind (tupleItemsOf_ ht ?_))
  refine wpAny_bind (wpAny_typeOf ty ?_)
  rw [if_pos (show (Value.type "slice" == Value.type "slice") = true from by decide)]
  refine wpAny_bind (applied_rev (n := xs.size) hs hk ?_)
  have ng : ¬ (((xs.size : Int) - 1 == 0 && (-1 : Int) == 1 && xs.size == xs.size) = true) := by simp
  refine (show wpAny (model prog w) _ (if ((xs.size : Int) - 1 == 0 && (-1 : Int) == 1 && xs.size == xs.size) = true then _ else _) _ _ s from ?_)
  rw [if_neg ng]
  have e := congrArg List.toArray (pick_back xs)
  refine (show wpAny (model prog w) _ (Builtin.Tuple.tupleExact ((List.range xs.size).filterMap fun (k : Nat) => xs[(((xs.size : Int) - 1) + (k : Int) * (-1)).toNat]?).toArray >>= _) _ _ s from ?_)
  rw [e]
  have hz : sizeOk (.seq xs.toList.reverse.toArray) := by show xs.toList.reverse.toArray.size ≤ sizeLine; simpa using hz
  first
    | exact wpAny_bind (m := Builtin.Tuple.tupleExact _) (wpAny_newObj_type (wpAny_pure ⟨_, rfl, wpAny_pure q⟩) hz)
    | exact wpAny_bind (m := Builtin.Tuple.tupleExact _) (wpAny_newObj_type (wpAny_bind (wpAny_pure (wpAny_pure ⟨_, rfl, wpAny_pure q⟩))) hz)
    | exact wpAny_bind (wpAny_bind (m := Builtin.Tuple.tupleExact _) (wpAny_newObj_type (wpAny_pure (wpAny_pure ⟨_, rfl, wpAny_pure q⟩)) hz))
end
def revS (z : Str) : Str := ⟨z.cps.toList.reverse.toArray⟩
section
variable {X : Cx}
/-- x[::-1] of a list, a tuple, a text -/
def tRevX (K : PySem.W.Frag) (te : TE) : TE := fun σ H Q => te σ H fun x H1 => (∃ a xs, x = .ref a ∧ SqL K H1 a xs ∧ ∀ p, H1 p = none → Q (.ref p) (upd H1 p (.lst xs.reverse))) ∨ (∃ a xs, x = .ref a ∧ SqT K H1 a xs ∧ ∀ p, H1 p = none → Q (.ref p) (upd H1 p (.tup xs.reverse))) ∨
  ∃ z, x = .str z ∧ z.length ≤ sizeLine ∧ Q (.str (revS z)) H1
theorem pe_revX {e : Expr} {te : TE} {k : Nat} {p1 p2 p3 pos : Pos} (he : PE X e te) : PE X (.Subscript e (.Slice none none (some (.UnaryOp .USub (.Constant (.int 1) k p1) p2)) p3) pos) (tRevX X.K te) := by
  refine ⟨fun pins s σ H Q I h => Subscript_ (thn (he.run pins s σ H _ I h) fun z s1 ⟨x, H1, J, r1, q1⟩ => ?_)⟩
  have hst : PO X (some (.UnaryOp .USub (.Constant (.int 1) k p1) p2)) (tPart (tUn (rU fun i => .int (-i)) (tC (.int 1)))) := po_some (pe_un un_neg pe_int)
  refine wpAny_Slice (thn (po_none.run pins s1 σ H1 (fun o G => o = none ∧ G = H1) J ⟨rfl, rfl⟩) fun vl s2 ⟨l, G2, J2, pl, el, e2⟩ => ?_)
  subst el e2
  refine thn (po_none.run pins s2 σ G2 (fun o G => o = none ∧ G = G2) J2 ⟨rfl, rfl⟩) fun vu s3 ⟨m, G3, J3, pu, eu, e3⟩ => ?_
  subst eu e3
  refine thn (hst.run pins s3 σ G3 (fun o G => o = some (-1) ∧ G = G3) J3 ⟨1, rfl, -1, rfl, rfl, rfl⟩) fun vs s4 ⟨o, G4, J4, ps, eo, e4⟩ => ?_
  subst eo e4
  have J5 : Inv X pins σ G4 { s4 with heap := s4.heap.push { cls := .type "slice", data := .fields #[vl, vu, vs] } } := J4.kept (t' := s4.toks) fun b ob q => Heap.get?_push_of_some _ q
  rcases q1 with ⟨a, xs, rfl, hx, q⟩ | ⟨a, xs, rfl, hx, q⟩ | ⟨y, rfl, hy, q⟩
  · cases r1
    obtain ⟨its, r, ht, hz⟩ := J5.list hx
    have hl := r.length
    refine tail_any (ops := [.ref a, .ref s4.heap.objs.size]) ht.isList.typeIs PySem.slot_list_getitem.lookup ?_ (by with_unfolding_all rfl)
    refine wpAny_getItem_list_slice ht.isList (Heap.IsSliceOf.new _ vl vu vs) pl pu ps (by decide) ?_ (by rw [List.size_toArray]; omega)
    rw [PySem.W.krv_pick]
    exact ⟨.ref _, _, J5.laid (t' := s4.toks) (o := .lst xs.reverse) (fun b ob q => Heap.get?_push_of_some _ q) (Nat.le_refl _) ⟨by rw [List.length_reverse]; exact hz, _, 0, r.reverse, Heap.get?_push_size _ rfl⟩, rfl, q _ (J5.hok.fresh (Nat.le_refl _))⟩
  · cases r1
    obtain ⟨its, r, ht, hz⟩ := J5.tuple hx
    have hl := r.length
    cases pl
    cases pu
    refine tail_any (ops := [.ref a, .ref s4.heap.objs.size]) ht.typeIs PyProof.Rows.slot_tuple_getitem.lookup ?_ (by with_unfolding_all rfl)
    refine tup_rev ht (Heap.IsSliceOf.new _ .none .none vs) ps (by rw [List.size_toArray]; omega) ?_
    exact ⟨.ref _, _, J5.laid (t' := s4.toks) (o := .tup xs.reverse) (fun b ob q => Heap.get?_push_of_some _ q) (Nat.le_refl _) ⟨by rw [List.length_reverse]; exact hz, _, r.reverse, IsTup.new _ _⟩, rfl, q _ (J5.hok.fresh (Nat.le_refl _))⟩
  · obtain ⟨tk, rfl⟩ := r1
    obtain ⟨l', el, el2⟩ := IsPart.raw pl
    obtain ⟨u', eu, eu2⟩ := IsPart.raw pu
    obtain ⟨v', ev, ev2⟩ := IsPart.raw ps
    refine tail_any (ops := [.str y tk, .ref s4.heap.objs.size]) (typeIs_str _ y tk) PyProof.Rows.slot_str_getitem.lookup ?_ (by with_unfolding_all rfl)
    refine wpAny_getItem_str_slice (l := l') (u := u') (st := v') ?_ (by rw [ev2]; rfl) ?_
    · rw [el, eu, ev]
      exact ⟨_, Heap.get?_push_size _ rfl, rfl, rfl⟩
    · have e0 : slicePicked y l' u' v' = (List.range y.cps.size).reverse := by
        unfold slicePicked
        rw [el2, eu2, ev2]
        show Builtin.Str.strSliceIndices none none (-1) y.cps.size = _
        unfold Builtin.Str.strSliceIndices
        show sliceRange ((y.cps.size : Int) - 1) (-1) (-1) = _
        rw [PySem.W.krv_sliceRange, PySem.W.krv_range]
      have e1 : sliceMade y tk l' u' v' = .str (revS y) := by
        unfold sliceMade
        rw [ev2]
        rw [if_neg (show ¬ ((((some (-1) : Option Int)).getD 1 == 1 && (slicePicked y l' u' v').length == y.length) = true) by simp), e0, List.filterMap_reverse, PySem.W.krv_all]
        rfl
      rw [e1]
      have hl : (revS y).length ≤ sizeLine := by
        show y.cps.toList.reverse.toArray.size ≤ sizeLine
        rw [List.size_toArray, List.length_reverse, Array.length_toList]; exact hy
      exact ⟨hl, .str (revS y), G4, J5.tok _, ⟨_, rfl⟩, q⟩
end
end Ss
namespace Dl
open PySem PySem.Spec PyProof.Rows L2 Sw Ss
/-! ### defs that may be called anywhere -/
def FnK (P : Program) (w : World) (K : PySem.W.Frag) (mg : Str → Option Value) (base : Heap) (l : Nat) (f : Addr) (fd : FuncData) (ps : List Str) (k : Dek) (sp : DSp) : Prop := FnOk P w K mg base CX0 l f fd ps (spL K k sp)
section
variable {P : Program} {w : World} {K : PySem.W.Frag} {mg : Str → Option Value} {base : Heap} {l : Nat} {f : Addr} {fd : FuncData} {ps : List Str} {k : Dek} {sp : DSp}
theorem FnK.mono {j : Nat} (F : FnK P w K mg base j f fd ps k sp) (h : j ≤ l) : FnK P w K mg base l f fd ps k sp := FnOk.mono F h
theorem spL_imp {K : PySem.W.Frag} {k : Dek} {sp sp' : DSp} (h : ∀ ds n P, sp' ds n P → sp ds n P) (vs : List V) (H : Hp) (Q : VK) (E : XK) (q : spL K k sp' vs H Q E) : spL K k sp vs H Q E := by
  obtain ⟨G, ds, n, P, h1, h2, h3, h4, h5, h6⟩ := q
  exact ⟨G, ds, n, P, h1, h2, h3, h4, h _ _ _ h5, h6⟩
theorem FnK.imp {sp' : DSp} (F : FnK P w K mg base l f fd ps k sp) (h : ∀ ds n P, sp' ds n P → sp ds n P) : FnK P w K mg base l f fd ps k sp' := FnOk.imp F (spL_imp h)
theorem fnk_of {x q : Str} {pa : Arguments} {bo : List Stmt} {sc : Scope} {N : List Str} (F : FunD K x q pa bo sc [] [] f fd) (S : FnScope N ps sc) (hl : ∀ ds n P, sp ds n P → ds.length = ps.length)
    (hbo : ∀ (cv : Value) (A : Around) (out : List Env) (s : Shared) (H : Hp) (E : XK) (W : Wd k) (ds : List D) (n : Int) (Q : D → Int → Prop), Room l (A.deeper (envOfC q sc s.heap.objs.size f cv)) → sp ds n Q →
      ∃ t, DSs (cxOf CX0 P w K mg base N q sc f cv A out s H E).nox W bo t ∧ t { nx := fun S => Q .non S.dr, rt := fun d S => Q d S.dr } ⟨startD N ds, n⟩) : FnK P w K mg base (l + 1) f fd ps k sp := by
  have lN : ps.length ≤ N.length := by have := congrArg List.length S.pre; rw [List.length_take] at this; omega
  refine F.ok S (fun vs H Q E ⟨G, ds, n, P, _, _, _, dv, h, _⟩ => (dva_len dv).trans (hl _ _ _ h)) fun cv A out s H vs Q E hr ⟨G, ds, n, R, sGH, g, dk, dv, h, q⟩ => ?_
  obtain ⟨t, ht, hq⟩ := hbo cv A out s H E (Wd.of k G H g) ds n R hr h
  have R0 := rep_start (K := K) (N := N) (by rw [hl _ _ _ h]; exact lN) sGH g dk dv
  have fin : ∀ d S' σ H' G' v, Same G G' → R d S'.dr → Rep (Wd.of k G H g) K G' H' σ S' → Dv K G' v d → Q v H' := fun d S' σ H' G' v s' r R' dv' => by
    refine q d S'.dr r v H' G' s' R'.gh (fun a o e => ?_) (fun a o e m => R'.fr a o ?_) R'.dk dv'
    · rcases R'.nw a o e with e | ⟨e, m⟩
      · exact .inl e
      · refine .inr ⟨?_, m⟩
        have e : (if a ∈ k.dk then none else H a) = none := e
        exact (if_neg (show a ∉ k.dk from m)).symm.trans e
    · show (if a ∈ k.dk then none else H a) = some o
      exact (if_neg (show a ∉ k.dk from m)).trans e
  exact ⟨_, PSs.nox ht, G, _, _, R0, hq, ⟨fun S' σ H' G' s' r R' => fin .non S' σ H' G' .non s' r R' .non, fun d S' σ H' G' v s' r R' dv' => fin d S' σ H' G' v s' r R' dv', fun _ _ _ _ _ z => z.elim, fun _ _ _ _ _ z => z.elim⟩⟩
end
section
variable {X : Cx} {kk : Dek} {W : Wd kk} {l : Nat} {f : Addr} {fd : FuncData} {ps : List Str} {sp : DSp} {x : Str} {p pos apos : Pos} {a b e : Expr} {es : List Expr} {t : DTA} {ta tb te : DT}
theorem de_callK (F : FnK X.prog X.w X.K X.mg X.base l f fd ps kk sp) (hr : Room l X.A) (hg : Gl X x) (hm : X.mg x = some (.ref f)) (hk : PySem.W.keepIn X.K (.ref f) = true) (hb : Binds X.K fd ps [])
    (ha : DA X W (e :: es) t) (hd : (x == ("__debug__" : Str)) = false := by decide) (he : starEach (e :: es) X.env = (false, eval e X.env) :: starEach es X.env := by rfl)
    (hp : (backTo pos (starEach es X.env)).any (·.1) = false := by rfl) : DE X W (.Call (.Name x p) (e :: es) [] pos) (dCall sp t) := by
  refine pe_imp (pe_call (E := E0) F hr hg hm hk hb .nil pass0 ha hd he hp) fun σ H Q ⟨G, S, P, R, h, q⟩ => ?_
  refine ⟨G, S, _, R, h, fun ds S1 p1 vs H1 G1 s1 R1 dv => ?_⟩
  show spL X.K kk sp (vs ++ []) H1 Q E0
  rw [List.append_nil]
  exact after_call R1 dv p1 fun d S2 p2 v H2 G2 s2 R2 dv2 => q d S2 p2 v H2 G2 (s1.trans s2) R2 dv2
/-! ### x[::-1] -/
def backD (x : D) (P : D → Prop) : Prop := match x with
  | .lst a => P (.lst a.reverse)
  | .tup a => P (.tup a.reverse)
  | .str z => z.length ≤ sizeLine ∧ P (.str (revS z))
  | _ => False
def dBack (t : DT) : DT := fun S P => t S fun x S1 => backD x fun d => P d S1
theorem de_back {k : Nat} {p1 p2 p3 : Pos} (he : DE X W e te) : DE X W (.Subscript e (.Slice none none (some (.UnaryOp .USub (.Constant (.int 1) k p1) p2)) p3) pos) (dBack te) := by
  refine pe_imp (pe_revX he) fun σ H Q ⟨G, S, P, R, p, q⟩ => ?_
  refine ⟨G, S, _, R, p, fun x S1 p1 v H1 G1 s1 R1 d1 => ?_⟩
  cases x with
  | lst ds =>
    cases d1 with
    | @lst a xs _ h1 h2 =>
      refine .inl ⟨_, _, rfl, SqL.of (R1.gh _ _ h1), fun p hp => ?_⟩
      have g := same_upd (o := .lst xs.reverse) (R1.gh.free hp)
      exact q _ S1 p1 _ _ _ (s1.trans g) (R1.new hp) (.lst upd_same (DvAll.up g _ _ (dva_rev h2)))
  | tup ds =>
    cases d1 with
    | @tup a xs _ h1 h2 =>
      refine .inr (.inl ⟨_, _, rfl, SqT.of (R1.gh _ _ h1), fun p hp => ?_⟩)
      have g := same_upd (o := .tup xs.reverse) (R1.gh.free hp)
      exact q _ S1 p1 _ _ _ (s1.trans g) (R1.new hp) (.tup upd_same (DvAll.up g _ _ (dva_rev h2)))
  | str z =>
    cases d1
    exact .inr (.inr ⟨z, rfl, p1.1, q _ S1 p1.2 _ H1 G1 s1 R1 (.str _)⟩)
  | _ => exact p1.elim
/-! ### a sign in a text -/
def dInS (f : Bool → Bool) (x y : D) (P : D → Prop) : Prop := match x, y with
  | .str i, .str j => ∃ c, i = ⟨#[c]⟩ ∧ P (.bl (f (decide (c ∈ j.cps.toList))))
  | _, _ => False
theorem do_in_sign : DOpB X W (compareOp .In) (dInS id) := by
  refine ⟨_, op_in_sign, fun G H σ S v w x y P Q R hv hw h q => ?_⟩
  cases x with
  | str i =>
    cases y with
    | str j => cases hv; cases hw; obtain ⟨c, rfl, h⟩ := h; exact ⟨c, j, rfl, rfl, q _ h⟩
    | _ => exact h.elim
  | _ => exact h.elim
theorem do_notin_sign : DOpB X W (compareOp .NotIn) (dInS (!·)) := by
  refine ⟨_, op_notIn_sign, fun G H σ S v w x y P Q R hv hw h q => ?_⟩
  cases x with
  | str i =>
    cases y with
    | str j => cases hv; cases hw; obtain ⟨c, rfl, h⟩ := h; exact ⟨c, j, rfl, rfl, q _ h⟩
    | _ => exact h.elim
  | _ => exact h.elim
/-! ### {} -/
theorem do_emp : DO X W (.Dict [] [] pos) (dC (.dk [] [])) := by
  refine pe_imp pe_dnewK fun σ H Q ⟨G, S, P, R, p, q⟩ => ?_
  show ∀ p, H p = none → Q (.ref p) (upd H p (.dK []))
  intro a ha
  obtain ⟨R2, f, no⟩ := R.fresh (u := .dK []) ha
  exact q _ S p a _ G (Same.refl _) R2 f ⟨[], upd_same, rfl, .nil⟩ no
/-! ### t != () -/
theorem op_neNil (hu : X.A.units < cLine) : OpR X (compareOp .NotEq) (fun x y H Q => ∃ a xs b, x = .ref a ∧ SqT X.K H a xs ∧ y = .ref b ∧ SqT X.K H b [] ∧ Q (.bl (!xs.isEmpty)) H) := by
  intro pins s σ H x y v u Q I rx ry ⟨a, xs, b, ex, hx, ey, hy, q⟩
  subst ex ey
  cases rx
  cases ry
  obtain ⟨its, r, ht, _⟩ := I.tuple hx
  obtain ⟨its2, r2, ht2, _⟩ := I.tuple hy
  cases r2
  have hl := r.length
  refine SeqAt.RcNeAt.tuples (e := fun _ => true) ht ht2 hu (fun j _ h2 => absurd h2 (Nat.not_lt_zero _)) X.prog X.w _ _ ?_
  refine ⟨.bl _, H, I, ?_, q⟩
  show Value.bool _ = Value.bool _
  congr 1
  cases xs with
  | nil => cases its with
    | nil => rfl
    | cons _ _ => cases hl
  | cons _ _ => cases its with
    | nil => cases hl
    | cons _ _ => simp
def dNeNil (x y : D) (P : D → Prop) : Prop := match x, y with
  | .tup ds, .tup [] => P (.bl (!ds.isEmpty))
  | _, _ => False
theorem do_neNil (hu : X.A.units + 64 < cLine) : DOpB X W (compareOp .NotEq) dNeNil := by
  refine ⟨_, op_neNil (by omega), fun G H σ S v w x y P Q R hv hw h q => ?_⟩
  unfold dNeNil at h
  split at h
  · cases hv with
    | @tup a xs _ h1 h2 =>
      cases hw with
      | @tup b ys _ h3 h4 =>
        cases h4
        refine ⟨a, xs, b, rfl, SqT.of (R.gh _ _ h1), rfl, SqT.of (R.gh _ _ h3), q _ ?_⟩
        cases h2 <;> exact h
  · exact h.elim
/-! ### a <= b <= c as a test -/
theorem dt_chainv (h : DE X W e ta) (he : ∀ whole, isTrue e X.env whole = (do let v ← whole; standAt e.pos; holding [v] (truthy v)) := by intro _; rfl) : DTe X W e (dBool ta) := dt_val h he
/-! ### 10 ** 18 -/
theorem do_op_pow : DOp X W (binaryOp .Pow) (dII CPow fun i j => .int (i ^ j.toNat)) := do_ii op_pow
/-! ### ''.join -/
def txts : List D → Option (List Str)
  | [] => some []
  | .str z :: ds => (txts ds).map (z :: ·)
  | _ :: _ => none
theorem txts_dv {K : PySem.W.Frag} {G : Hp} : ∀ {ds : List D} {zs : List Str} {vs : List V}, txts ds = some zs → DvAll K G vs ds → vs = zs.map V.str
  | [], _, _, e, h => by cases e; cases h; rfl
  | .str z :: ds, _, _, e, h => by
    obtain ⟨ys, e2, rfl⟩ := Option.map_eq_some_iff.mp (show (txts ds).map (z :: ·) = _ from e)
    cases h with
    | cons h1 h2 => cases h1; rw [List.map_cons, ← txts_dv e2 h2]
theorem txts_map : ∀ zs : List Str, txts (zs.map D.str) = some zs
  | [] => rfl
  | z :: zs => by show (txts (zs.map D.str)).map (z :: ·) = _; rw [txts_map zs]; rfl
def joinD (z : Str) (y : D) (P : D → Prop) : Prop := match y with
  | .lst ds => ∃ zs, txts ds = some zs ∧ (zs.map (·.length)).sum + zs.length * z.length ≤ 16777216 ∧ P (.str (Txt.join z zs))
  | .tup ds => ∃ zs, txts ds = some zs ∧ (zs.map (·.length)).sum + zs.length * z.length ≤ 16777216 ∧ P (.str (Txt.join z zs))
  | _ => False
def dJoin (ta tb : DT) : DT := fun S P => ta S fun x S1 => match x with
  | .str z => tb S1 fun y S2 => joinD z y fun d => P d S2
  | _ => False
theorem de_join (ha : DE X W a ta) (hb : DE X W b tb) (hs : starEach [b] X.env = [(false, eval b X.env)] := by rfl) (hbase : attributeBase a "join" X.env (eval a X.env) = eval a X.env := by rfl) (hline : (apos.endLine == pos.line) = true := by rfl) :
    DE X W (.Call (.Attribute a "join" apos) [b] [] pos) (dJoin ta tb) := by
  refine pe_imp (pe_join ha hb hs hbase hline) fun σ H Q ⟨G, S, P, R, p, q⟩ => ?_
  refine ⟨G, S, _, R, p, fun x S1 p1 v H1 G1 s1 R1 d1 => ?_⟩
  cases x with
  | str z =>
    cases d1
    refine ⟨⟨z, rfl⟩, G1, S1, _, R1, p1, fun y S2 p2 u H2 G2 s2 R2 d2 => ?_⟩
    cases y with
    | lst ds =>
      obtain ⟨zs, e, hz, p2⟩ := (show ∃ zs, txts ds = some zs ∧ _ from p2)
      cases d2 with
      | @lst c xs _ h1 h2 =>
        have ex := txts_dv e h2
        subst ex
        exact ⟨z, c, zs, rfl, rfl, .inl (SqL.of (R2.gh _ _ h1)), hz, q _ S2 p2 _ H2 G2 (s1.trans s2) R2 (.str _)⟩
    | tup ds =>
      obtain ⟨zs, e, hz, p2⟩ := (show ∃ zs, txts ds = some zs ∧ _ from p2)
      cases d2 with
      | @tup c xs _ h1 h2 =>
        have ex := txts_dv e h2
        subst ex
        exact ⟨z, c, zs, rfl, rfl, .inr (SqT.of (R2.gh _ _ h1)), hz, q _ S2 p2 _ H2 G2 (s1.trans s2) R2 (.str _)⟩
    | _ => exact False.elim p2
  | _ => exact False.elim p1
end
end Dl
namespace Dl
open PySem PySem.Spec PyProof.Rows L2 Sw Ss
/-! ### turns that change the state -/
theorem lcL_J {vs : List Nat} {g : DGT} {tt : DTT} {te : DT} {P : D → Ds → Prop} {ρ : List (Option Sl)} (J : Nat → List D → Int → Prop) : ∀ (ds : List D) (i : Nat) (acc : List D) (dr : Int),
    (∀ d ∈ ds, ∀ j acc dr, j < i + ds.length → J j acc dr → ∀ (A : D → Ds → Prop) (B : Ds → Prop), (∀ y S', wipeD S'.ρ vs = ρ → J (j + 1) (acc ++ [y]) S'.dr → A y S') → (∀ S', wipeD S'.ρ vs = ρ → J (j + 1) acc S'.dr → B S') →
      g d ⟨wipeD ρ vs, dr⟩ fun S2 => tt S2 fun b S3 => onT b (te S3 A) (B S3)) →
    acc.length + ds.length ≤ sizeLine → (∀ acc dr, J (i + ds.length) acc dr → P (.lst acc) ⟨ρ, dr⟩) → J i acc dr → lcL vs g tt te P ds acc ⟨ρ, dr⟩
  | [], i, acc, dr, _, _, fin, j => fin acc dr j
  | d :: ds, i, acc, dr, st, hz, fin, j => by
    rw [List.length_cons] at hz
    unfold lcL
    refine st d (List.mem_cons_self ..) i acc dr (by rw [List.length_cons]; omega) j _ _ (fun y S' e j' => ⟨by omega, ?_⟩) fun S' e j' => ?_
    · rw [e]
      exact lcL_J J ds (i + 1) (acc ++ [y]) S'.dr (fun d hd j a n hj => st d (List.mem_cons_of_mem _ hd) j a n (by rw [List.length_cons]; omega)) (by rw [List.length_append]; simp only [List.length_cons, List.length_nil]; omega)
        (fun a n h => fin a n (by rw [List.length_cons, show i + (ds.length + 1) = i + 1 + ds.length by omega]; exact h)) j'
    · rw [e]
      exact lcL_J J ds (i + 1) acc S'.dr (fun d hd j a n hj => st d (List.mem_cons_of_mem _ hd) j a n (by rw [List.length_cons]; omega)) (by omega)
        (fun a n h => fin a n (by rw [List.length_cons, show i + (ds.length + 1) = i + 1 + ds.length by omega]; exact h)) j'
/-- a loop: J holds ahead of each turn -/
theorem forL_J {g : DGT} {tb : DST} {E : DEnds} (J : List D → Ds → Prop) : ∀ (ds : List D) (S : Ds), (∀ d ds' S, (∃ pre, ds = pre ++ d :: ds') → J (d :: ds') S → ∀ N : Ds → Prop, (∀ S', J ds' S' → N S') → g d S fun S1 => tb { E with nx := N, ct := N, bk := E.nx } S1) → (∀ S, J [] S → E.nx S) → J ds S → forL g tb E ds S
  | [], S, _, fin, j => fin S j
  | d :: ds, S, st, fin, j => by
    unfold forL
    exact st d ds S ⟨[], rfl⟩ j _ fun S' j' => forL_J J ds S' (fun d' ds' S ⟨pre, e⟩ => st d' ds' S ⟨d :: pre, by rw [e]; rfl⟩) fin j'
/-! ### tuples of ints and texts, and sets of them -/
def kD : Key → D
  | .inl i => .int i
  | .inr z => .str z
def eT {α : Type} [DecidableEq α] [PySem.W.DatumOrd α] (κ : TKn α) (a : α) : D := .tup ((κ.ks a).map kD)
theorem keys_dv {K : PySem.W.Frag} {G : Hp} : ∀ {ks : List Key} {xs : List V}, DvAll K G xs (ks.map kD) → xs = ks.map kV
  | [], _, h => by cases h; rfl
  | .inl i :: ks, _, h => by cases h with | cons h1 h2 => cases h1; rw [List.map_cons, ← keys_dv h2]; rfl
  | .inr i :: ks, _, h => by cases h with | cons h1 h2 => cases h1; rw [List.map_cons, ← keys_dv h2]; rfl
section
variable {α : Type} [DecidableEq α] [PySem.W.DatumOrd α]
theorem rows_of {K : PySem.W.Frag} {G : Hp} (κ : TKn α) : ∀ {as : List α} {xs : List V}, DvAll K G xs (as.map (eT κ)) → ∃ rows : List (Addr × α), rows.map (·.2) = as ∧ xs = rows.map (fun p => V.ref p.1) ∧ ∀ p ∈ rows, G p.1 = some (.tup ((κ.ks p.2).map kV)) ∧ Dv K G (.ref p.1) (eT κ p.2)
  | [], _, h => by cases h; exact ⟨[], rfl, rfl, fun p hp => by cases hp⟩
  | a :: as, _, h => by
    cases h with
    | cons h1 h2 =>
      obtain ⟨rows, e1, e2, e3⟩ := rows_of κ h2
      have h1' := h1
      cases h1 with
      | @tup b ys _ k1 k2 =>
        have ey := keys_dv k2
        subst ey
        exact ⟨(b, a) :: rows, by rw [List.map_cons, e1], by rw [List.map_cons, e2], fun p hp => (List.mem_cons.mp hp).elim (fun e => by subst e; exact ⟨k1, h1'⟩) (e3 p)⟩
theorem dva_rows {K : PySem.W.Frag} {G : Hp} (κ : TKn α) : ∀ {bs : List (Addr × α)}, (∀ p ∈ bs, Dv K G (.ref p.1) (eT κ p.2)) → DvAll K G (bs.map fun p => V.ref p.1) ((bs.map (·.2)).map (eT κ))
  | [], _ => .nil
  | b :: bs, h => .cons (h b (List.mem_cons_self ..)) (dva_rows κ fun p hp => h p (List.mem_cons_of_mem _ hp))
end
section
variable {kk : Dek} {X : Cx} {W : Wd kk} {a b e : Expr} {ta tb te : DT} {α : Type} [DecidableEq α] [PySem.W.DatumOrd α] {p p2 q pos apos : Pos}
def dLenT (κ : TKn α) (t : DT) : DT := fun S P => t S fun x S1 => ∃ as : List α, (x = .tup (as.map (eT κ)) ∨ x = .lst (as.map (eT κ))) ∧ as.length < 63 ∧ ∀ bs : List α, bs.Nodup → (∀ b, b ∈ bs ↔ b ∈ as) → P (.int (bs.length : Nat)) S1
theorem mems_iff {rows bs : List (Addr × α)} (m : Mems rows bs) (c : α) : c ∈ bs.map (·.2) ↔ c ∈ rows.map (·.2) := ⟨fun h => by
  obtain ⟨b, hb, rfl⟩ := List.mem_map.mp h
  exact List.mem_map_of_mem (m.sub b hb), m.all c⟩
theorem de_lenT (κ : TKn α) (hc : X.calm = true) (hu : X.A.units + 64 < cLine) (hg : Gl X "len") (hm : X.mg "len" = none) (hg2 : Gl X "set") (hm2 : X.mg "set" = none) (ha : DE X W a ta)
    (na : starEach [a] X.env = (false, eval a X.env) :: starEach [] X.env := by rfl) : DE X W (.Call (.Name "len" p) [.Call (.Name "set" p2) [a] [] q] [] pos) (dLenT κ ta) := by
  refine pe_imp (pe_lenT κ hc hu hg hm hg2 hm2 ha na) fun σ H Q ⟨G, S, P, R, p, qq⟩ => ?_
  refine ⟨G, S, _, R, p, fun x S1 ⟨as, ex, few, p1⟩ v H1 G1 s1 R1 d1 => ?_⟩
  have fin : ∀ {l : Addr} {xs : List V}, (SqL X.K H1 l xs ∨ SqT X.K H1 l xs) → DvAll X.K G1 xs (as.map (eT κ)) → v = .ref l → ∃ (l : Addr) (rows : List (Addr × α)), v = .ref l ∧ (SqL X.K H1 l (rows.map fun p => V.ref p.1) ∨ SqT X.K H1 l (rows.map fun p => V.ref p.1)) ∧
      (∀ p ∈ rows, SqT X.K H1 p.1 ((κ.ks p.2).map kV)) ∧ rows.length < 63 ∧ ∀ bs, Mems rows bs → Q (.int (bs.length : Nat)) H1 := fun {l xs} hq dv ev => by
    obtain ⟨rows, e1, e2, e3⟩ := rows_of κ dv
    subst e2
    refine ⟨l, rows, ev, hq, fun p hp => SqT.of (R1.gh _ _ (e3 p hp).1), by rw [← List.length_map (f := (·.2)), e1]; exact few, fun bs m => ?_⟩
    have hp := p1 (bs.map (·.2)) m.nd fun b => by rw [mems_iff m, e1]
    rw [List.length_map] at hp
    exact qq _ S1 hp _ H1 G1 s1 R1 (.int _)
  rcases ex with rfl | rfl
  · cases d1 with | @tup l xs _ h1 h2 => exact fin (.inr (SqT.of (R1.gh _ _ h1))) h2 rfl
  · cases d1 with | @lst l xs _ h1 h2 => exact fin (.inl (SqL.of (R1.gh _ _ h1))) h2 rfl
def dSortT (κ : TKn α) (t : DT) : DT := fun S P => t S fun x S1 => ∃ as : List α, (x = .tup (as.map (eT κ)) ∨ x = .lst (as.map (eT κ))) ∧ as.length < 63 ∧ ∀ bs : List α, bs.Nodup → (∀ b, b ∈ bs ↔ b ∈ as) → bs.Pairwise (fun x y => PySem.W.DatumOrd.lt y x = false) → P (.lst (bs.map (eT κ))) S1
theorem do_sortT (κ : TKn α) (hc : X.calm = true) (hu : X.A.units + 64 < cLine) (hg : Gl X "sorted") (hm : X.mg "sorted" = none) (hg2 : Gl X "set") (hm2 : X.mg "set" = none) (ha : DE X W a ta)
    (na : starEach [a] X.env = (false, eval a X.env) :: starEach [] X.env := by rfl) : DO X W (.Call (.Name "sorted" p) [.Call (.Name "set" p2) [a] [] q] [] pos) (dSortT κ ta) := by
  refine pe_imp (pe_sortT κ hc hu hg hm hg2 hm2 ha na) fun σ H Q ⟨G, S, P, R, p, qq⟩ => ?_
  refine ⟨G, S, _, R, p, fun x S1 ⟨as, ex, few, p1⟩ v H1 G1 s1 R1 d1 => ?_⟩
  have fin : ∀ {l : Addr} {xs : List V}, (SqL X.K H1 l xs ∨ SqT X.K H1 l xs) → DvAll X.K G1 xs (as.map (eT κ)) → v = .ref l → ∃ (l : Addr) (rows : List (Addr × α)), v = .ref l ∧ (SqL X.K H1 l (rows.map fun p => V.ref p.1) ∨ SqT X.K H1 l (rows.map fun p => V.ref p.1)) ∧
      (∀ p ∈ rows, SqT X.K H1 p.1 ((κ.ks p.2).map kV)) ∧ rows.length < 63 ∧ ∀ bs p, Mems rows bs → bs.Pairwise (fun x y => PySem.W.DatumOrd.lt y.2 x.2 = false) → H1 p = none → Q (.ref p) (upd H1 p (.lst (bs.map fun r => V.ref r.1))) := fun {l xs} hq dv ev => by
    obtain ⟨rows, e1, e2, e3⟩ := rows_of κ dv
    subst e2
    refine ⟨l, rows, ev, hq, fun p hp => SqT.of (R1.gh _ _ (e3 p hp).1), by rw [← List.length_map (f := (·.2)), e1]; exact few, fun bs pp m pw hp => ?_⟩
    have hpp := p1 (bs.map (·.2)) m.nd (fun b => by rw [mems_iff m, e1]) (List.pairwise_map.mpr pw)
    obtain ⟨R2, f, no⟩ := R1.fresh (u := .lst (bs.map fun r => V.ref r.1)) hp
    exact qq _ S1 hpp pp _ G1 s1 R2 f (show Own X.K G1 (upd H1 pp (.lst (bs.map fun r => V.ref r.1))) pp (.lst ((bs.map (·.2)).map (eT κ))) from ⟨_, upd_same, dva_rows κ fun p hp => (e3 p (m.sub p hp)).2⟩) no
  rcases ex with rfl | rfl
  · cases d1 with | @tup l xs _ h1 h2 => exact fin (.inr (SqT.of (R1.gh _ _ h1))) h2 rfl
  · cases d1 with | @lst l xs _ h1 h2 => exact fin (.inl (SqL.of (R1.gh _ _ h1))) h2 rfl
/-! ### reversed(text) -/
def dIRevS (t : DT) : DIT := fun S P => t S fun x S1 => match x with
  | .str z => z.length < 2 ^ 62 ∧ P (z.cps.toList.reverse.map fun c => .str (chr c)) S1
  | _ => False
theorem di_revS {tg : Expr} (hg : Gl X "reversed") (hm : X.mg "reversed" = none) (he : DE X W e te) (hs : starEach [e] X.env = (false, eval e X.env) :: starEach [] X.env := by rfl) : DI X W tg (.Call (.Name "reversed" p) [e] [] pos) (dIRevS te) := by
  refine pi_imp (pi_revS hg hm he hs) fun σ H R ⟨G, S, P, Rp, p, q⟩ => ?_
  refine ⟨G, S, _, Rp, p, fun x S1 p1 v H1 G1 s1 R1 d1 => ?_⟩
  cases x with
  | str z =>
    cases d1
    have el : (z.cps.toList.reverse.map fun c => D.str (chr c)).length = z.length := by rw [List.length_map, List.length_reverse]; rfl
    refine ⟨z, rfl, p1.1, q _ S1 p1.2 H1 G1 s1 R1 (Itr z) (fun _ => True) (fun i H x H' => H' = H ∧ ∃ c, z.cps.toList[z.length - 1 - i]? = some c ∧ x = .str ⟨#[c]⟩) (by rw [el]; exact walk_revS) (fun _ _ => trivial) ?_⟩
    rintro i H2 x H3 hi ⟨eH, c, ec, ex⟩
    subst eH ex
    rw [el] at hi
    refine ⟨.str (chr c), ?_, comes_same (.str _)⟩
    rw [List.getElem?_map, List.getElem?_reverse (by show i < z.length; exact hi)]
    show (z.cps.toList[z.length - 1 - i]?).map _ = _
    rw [ec]; rfl
  | _ => exact p1.elim
end
end Dl
namespace Dl
open PySem PySem.Spec PyProof.Rows L2 Sw Ss
section
variable {kk : Dek} {X : Cx} {W : Wd kk} {a b c e : Expr} {ta tb tc te : DT} {p p2 q pos apos : Pos}
/-! ### a, b, c = x, [], y -/
def dPar3 (i j l : Nat) (ta tc : DT) : DST := fun E S => ta S fun x S1 => tc S1 fun z S2 => E.nx ⟨setS (setS (setS S2.ρ i (some (.v x))) j (some (.o (.lst [])))) l (some (.v z)), S2.dr⟩
theorem noOwn_setV {σ : L2.St} {S : Ds} {r : Addr} {i : Nat} {v : V} {d : D} (no : NoOwn σ S r) : NoOwn (σ.set i (some v)) ⟨setS S.ρ i (some (.v d)), S.dr⟩ r := fun j d' e z => by
  rcases getS_setS e with ⟨_, h, _⟩ | ⟨hj, h⟩
  · cases h
  · rw [List.getElem?_set_ne (Ne.symm hj)] at z; exact no j d' h z
theorem ds_par3 {i j l : Nat} {x y z : Str} {px py pz pt pl : Pos} {kt k2 pt2} (hcm : X.calm = true) (hN : X.N.Nodup) (hi : X.N[i]? = some x) (hj : X.N[j]? = some y) (hl : X.N[l]? = some z) (hij : i ≠ j) (hil : i ≠ l) (hjl : j ≠ l)
    (hx : X.env.scope.names.lookup x = some .local) (hy : X.env.scope.names.lookup y = some .local) (hz : X.env.scope.names.lookup z = some .local) (ha : DE X W a ta) (hc : ∀ W' : Wd kk, DE X W' c tc)
    (hw : swappedStores [.Tuple [.Name x px, .Name y py, .Name z pz] kt pt] (.Tuple [a, .List [] pl, c] k2 pt2) X.env = pure (some [x, y, z]))
    (hs : swapsWithSole [.Tuple [.Name x px, .Name y py, .Name z pz] kt pt] (.Tuple [a, .List [] pl, c] k2 pt2) pos.line X.env = pure false := by rfl)
    (h1 : starEach [a, .List [] pl, c] X.env = (false, eval a X.env) :: starEach [.List [] pl, c] X.env := by rfl) (h2 : starEach [.List [] pl, c] X.env = (false, eval (.List [] pl) X.env) :: starEach [c] X.env := by rfl) (h3 : starEach [c] X.env = (false, eval c X.env) :: starEach [] X.env := by rfl) :
    DS X W (.Assign [.Tuple [.Name x px, .Name y py, .Name z pz] kt pt] (.Tuple [a, .List [] pl, c] k2 pt2) pos) (dPar3 i j l ta tc) := by
  refine ps_imp (ps_par3 hcm hN hi hj hl hij hil hjl hx hy hz (pa_cons ha (pa_cons (pe_lst pa_nil) (pa_cons (pe_anyE hc) pa_nil h3) h2) h1) hw hs) fun N σ H ⟨G, S, E, R, p, ok⟩ => ?_
  refine ⟨G, S, _, R, p, fun x S1 p1 v H1 G1 s1 R1 d1 => ⟨Nat.zero_le _, fun r hr => ?_⟩⟩
  obtain ⟨R2, f, no⟩ := R1.fresh (u := .lst []) hr
  refine ⟨W.plus r (.lst []) f.d, G1, S1, _, R2.plus f no upd_same, p1, fun z S2 p2 w H3 G3 s3 R3 d3 => ?_⟩
  obtain ⟨R4, f4, no4, e4⟩ := Rep.less f.f (R1.bg.free f.g) R3
  refine ⟨_, _, _, rfl, ok.nx _ _ H3 G3 (s1.trans s3) p2 ?_⟩
  have R5 := R4.setV (i := i) (Dv.up s3 _ _ d1)
  have R6 := R5.setO (i := j) f4 (show Own X.K G3 H3 r (.lst []) from ⟨[], e4, .nil⟩) (noOwn_setV no4)
  exact R6.setV d3
/-! ### {k: v for target in iter} -/
def keyOf : List D → Option (List Key)
  | [] => some []
  | .int i :: ds => (keyOf ds).map (.inl i :: ·)
  | .str z :: ds => (keyOf ds).map (.inr z :: ·)
  | _ :: _ => none
theorem keyOf_dv {K : PySem.W.Frag} {G : Hp} : ∀ {ds : List D} {k : List Key} {xs : List V}, keyOf ds = some k → DvAll K G xs ds → xs = k.map kV
  | [], _, _, e, h => by cases e; cases h; rfl
  | .int i :: ds, _, _, e, h => by
    obtain ⟨k, e2, rfl⟩ := Option.map_eq_some_iff.mp (show (keyOf ds).map _ = _ from e)
    cases h with | cons h1 h2 => cases h1; rw [List.map_cons, ← keyOf_dv e2 h2]; rfl
  | .str i :: ds, _, _, e, h => by
    obtain ⟨k, e2, rfl⟩ := Option.map_eq_some_iff.mp (show (keyOf ds).map _ = _ from e)
    cases h with | cons h1 h2 => cases h1; rw [List.map_cons, ← keyOf_dv e2 h2]; rfl
/-- k stands with d from now on -/
def putD (kvs : List (List Key × D)) (k : List Key) (d : D) : List (List Key × D) :=
  if (kvs.any fun kv => decide (kv.1 = k)) = true then kvs.map (fun kv => if kv.1 = k then (kv.1, d) else kv) else kvs ++ [(k, d)]
inductive KvD (K : PySem.W.Frag) (G : Hp) : List (List Key × V) → List (List Key × D) → Prop
  | nil : KvD K G [] []
  | cons {k : List Key} {v : V} {d : D} {r : List (List Key × V)} {t : List (List Key × D)} : Dv K G v d → KvD K G r t → KvD K G ((k, v) :: r) ((k, d) :: t)
theorem KvD.keys {K : PySem.W.Frag} {G : Hp} : ∀ {r : List (List Key × V)} {t : List (List Key × D)}, KvD K G r t → r.map (·.1) = t.map (·.1)
  | _, _, .nil => rfl
  | _, _, .cons _ h => by rw [List.map_cons, List.map_cons, h.keys]
theorem KvD.vals {K : PySem.W.Frag} {G : Hp} : ∀ {r : List (List Key × V)} {t : List (List Key × D)}, KvD K G r t → DvAll K G (r.map (·.2)) (t.map (·.2))
  | _, _, .nil => .nil
  | _, _, .cons h t => .cons h t.vals
theorem KvD.up {K : PySem.W.Frag} {G G' : Hp} (e : Same G G') : ∀ {r : List (List Key × V)} {t : List (List Key × D)}, KvD K G r t → KvD K G' r t
  | _, _, .nil => .nil
  | _, _, .cons h t => .cons (Dv.up e _ _ h) (t.up e)
theorem KvD.len {K : PySem.W.Frag} {G : Hp} {r : List (List Key × V)} {t : List (List Key × D)} (h : KvD K G r t) : r.length = t.length := by
  have := congrArg List.length h.keys
  simpa using this
theorem KvD.put {K : PySem.W.Frag} {G : Hp} {r : List (List Key × V)} {t : List (List Key × D)} {k : List Key} {v : V} {d : D} (h : KvD K G r t) (hv : Dv K G v d) : KvD K G (putK r k v) (putD t k d) := by
  have ea : (r.any fun kv => decide (kv.1 = k)) = t.any fun kv => decide (kv.1 = k) := by
    induction h with
    | nil => rfl
    | cons h t ih => rw [List.any_cons, List.any_cons, ih]
  have em : KvD K G (r.map fun kv => if kv.1 = k then (kv.1, v) else kv) (t.map fun kv => if kv.1 = k then (kv.1, d) else kv) := by
    clear ea
    induction h with
    | nil => exact .nil
    | @cons k' v' d' r t h _ ih =>
      rw [List.map_cons, List.map_cons]
      by_cases e : k' = k
      · rw [if_pos e, if_pos e]; exact .cons hv ih
      · rw [if_neg e, if_neg e]; exact .cons h ih
  have ec : KvD K G (r ++ [(k, v)]) (t ++ [(k, d)]) := by
    clear ea em
    induction h with
    | nil => exact .cons hv .nil
    | cons h _ ih => exact .cons h ih
  unfold putK putD
  rw [ea]
  by_cases z : (t.any fun kv => decide (kv.1 = k)) = true
  · rw [if_pos z, if_pos z]; exact em
  · rw [if_neg z, if_neg z]; exact ec
def dcL (vs : List Nat) (g : DGT) (tk tv : DT) (P : D → Ds → Prop) : List D → List (List Key × D) → Ds → Prop
  | [], acc, S => P (.dt (acc.map (·.1)) (acc.map (·.2))) S
  | d :: ds, acc, S => g d ⟨wipeD S.ρ vs, S.dr⟩ fun S2 => tk S2 fun x S3 => tv S3 fun y S4 => ∃ es k, x = .tup es ∧ keyOf es = some k ∧ acc.length < sizeLine ∧ dcL vs g tk tv P ds (putD acc k y) ⟨wipeD S4.ρ vs, S4.dr⟩
def dDc (ti : DIT) (g : DGT) (tk tv : DT) (vs : List Nat) : DT := fun S P => ti S fun ds S1 => dcL vs g tk tv (fun d S2 => P d ⟨Dl.back S1.ρ S2.ρ vs, S2.dr⟩) ds [] ⟨wipeD S1.ρ vs, S1.dr⟩
theorem lift_dc {own is : List Nat} {wi : DIT} {g : DGT} {tk tv : DT} (hsub : ∀ i ∈ is, i ∈ own) (σ : L2.St) (H : Hp) (Q : VK) (h : liftO W X.K (dDc wi g tk tv own) σ H Q) :
    tDcP (.dT []) (liftI W X.K wi) (anyG kk X.K is g) (anyT kk X.K dYes) (anyE kk X.K tk) (anyE kk X.K tv) own σ H Q := by
  obtain ⟨G, S, P, R, p, q⟩ := h
  refine ⟨G, S, _, R, p, fun ds S1 p1 H1 G1 s1 R1 J Gd Y wk gd yl => fun D hD => ?_⟩
  obtain ⟨R1', f1, no1⟩ := R1.fresh (u := .dT []) hD
  have hDk : D ∉ kk.dk := f1.d
  refine ⟨ds.length, fun i H2 => ∃ G2 S2 acc kvs, Same G1 G2 ∧ Rep W X.K G2 H2 σ S2 ∧ Frsh W G2 D ∧ NoOwn σ S2 D ∧ H2 D = some (.dT kvs) ∧ KvD X.K G2 kvs acc ∧ dcL own g tk tv (fun d S2 => P d ⟨Dl.back S1.ρ S2.ρ own, S2.dr⟩) (ds.drop i) acc S2,
    ⟨G1, _, [], [], Same.refl _, R1'.off (Off.refl' own σ), f1, fun i d q => no1 i d (getS_wipe q).2, upd_same, .nil, by rw [List.drop_zero]; exact p1⟩, ?_, ?_⟩
  · rintro H2 ⟨G2, S2, acc, kvs, s2, R2, f2, no2, e2, dv2, p2⟩
    rw [List.drop_length] at p2
    exact ⟨wk.stops H2 (gd H2 (s2.trans R2.gh)), q _ _ p2 D H2 G2 (s1.trans s2) (Rep.back R1 s2 R2 own) f2 ⟨kvs, e2, dv2.keys, dv2.vals⟩ fun i d e => no2 i d (getS_back e)⟩
  · rintro i H2 hi ⟨G2, S2, acc, kvs, s2, R2, f2, no2, e2, dv2, p2⟩
    have hg2 := gd H2 (s2.trans R2.gh)
    refine ⟨wk.goes i H2 hi hg2, fun x H3 y0 => ?_⟩
    have y := wk.yields i H2 x H3 hi hg2 y0
    obtain ⟨d, ed, co⟩ := yl i H2 x H3 hi y
    have nB : W.B D = none := R2.bg.free f2.g
    obtain ⟨G3, s3, R3, d3⟩ := co (W.plus D (.dT kvs) hDk) G2 σ S2 s2 (R2.plus f2 no2 e2)
    rw [drop_cons ed] at p2
    refine ⟨W.plus D (.dT kvs) hDk, G3, _, d, _, R3.off (off_wipe σ own), d3, p2, fun S4 p4 σ4 H4 G4 s4 R4 o4 => ?_⟩
    have o4' : Off own (wipe σ own) σ4 := off_sub o4 hsub
    have w4 : wipe σ4 own = wipe σ own := by
      rw [wipe_off o4', wipe_off (off_wipe' σ own)]
    have offσ : Off own σ σ4 := ⟨by rw [o4'.1, wipe_length], fun j hj => (o4'.2 j hj).trans (wipe_get hj)⟩
    refine ⟨w4, W.plus D (.dT kvs) hDk, G4, S4, (fun b S5 => b = true ∧ tk S5 fun x S3 => tv S3 fun y S4 => ∃ es k, x = .tup es ∧ keyOf es = some k ∧ acc.length < sizeLine ∧ dcL own g tk tv (fun d S2 => P d ⟨Dl.back S1.ρ S2.ρ own, S2.dr⟩) (ds.drop (i + 1)) (putD acc k y) ⟨wipeD S4.ρ own, S4.dr⟩), R4, ⟨rfl, p4⟩, fun b S5 ⟨eb, p5⟩ H5 G5 s5 R5 => ?_⟩
    have sG : Same G2 G5 := s3.trans (s4.trans s5)
    cases b with
    | true =>
      refine iteT ?_
      refine ⟨W.plus D (.dT kvs) hDk, G5, S5, _, R5, p5, fun dy S6 p6 yv H6 G6 s6 R6 d6 => ?_⟩
      refine ⟨W.plus D (.dT kvs) hDk, G6, S6, _, R6, p6, fun dz S7 ⟨es, k, edy, ek, hz, p7⟩ zv H7 G7 s7 R7 d7 => ?_⟩
      subst edy
      obtain ⟨R7', f7, no7, e7⟩ := Rep.less f2.f nB (R7.off offσ)
      cases d6 with
      | @tup b xs _ h1 h2 =>
        have ex := keyOf_dv ek h2
        subst ex
        have sG7 := sG.trans (s6.trans s7)
        refine ⟨_, DPut.t e7 (R7.gh _ _ (s7 _ _ h1)) (by rw [dv2.len]; exact hz), G7, _, putD acc k dz, putK kvs k zv, s2.trans sG7, R7'.wrD f7 no7, f7, no7, upd_same, (dv2.up sG7).put d7, p7⟩
    | false =>
      cases eb
/-- {k: v for target in iter} -/
theorem do_dc {kx vx tg iter : Expr} {scope : Scope} {own : List (Str × Nat)} {is : List Nat} {wi : DIT} {g : DGT} {tk tv : DT} (room : X.A.units < cLine) (hc : X.calm = true) (hN : X.N.Nodup) (hi : DI X W tg iter wi) (ok : BlkOk X.N X.env.scope scope own)
    (hg : ∀ (s : Shared) (H : Hp) (C : Addr) (cl : List (Str × Addr)) (fp : List Addr) (W' : Wd kk), DG (X.blk s H scope (compEnvC scope cl C X.env) fp) W' tg is g)
    (hk : ∀ (s : Shared) (H : Hp) (C : Addr) (cl : List (Str × Addr)) (fp : List Addr) (W' : Wd kk), DE (X.blk s H scope (compEnvC scope cl C X.env) fp) W' kx tk)
    (hv : ∀ (s : Shared) (H : Hp) (C : Addr) (cl : List (Str × Addr)) (fp : List Addr) (W' : Wd kk), DE (X.blk s H scope (compEnvC scope cl C X.env) fp) W' vx tv) (hsub : ∀ i ∈ is, i ∈ own.map (·.2) := by decide) (hs : ∀ x, foldedSetIterable iter X.env x = pure x := by intro _; rfl) :
    DO X W (.DictComp kx vx [⟨tg, iter, [], 0⟩] scope pos) (dDc wi g tk tv (own.map (·.2))) :=
  pe_imp (pe_dcP (.inr rfl) room hc hN hi ok (fun s H C cl fp => pg_anyG (hg s H C cl fp)) (fun s H C cl fp => pt_anyT fun W' => dts_nil) (fun s H C cl fp => pe_anyE (hk s H C cl fp)) (fun s H C cl fp => pe_anyE (hv s H C cl fp)) hs) fun σ H Q h => lift_dc hsub σ H Q h
end
end Dl
namespace Dl
open PySem PySem.Spec PyProof.Rows L2 Sw Ss
/-! ### instances of an own class -/
structure InsC (K : PySem.W.Frag) (C : Addr) : Prop where
  cl : Cls K C
  ha : PySem.W.findIn K (.ref C) "__class__" = some (some (.builtin "object.__class__"))
  hn : PySem.W.specialIn K (.builtin "object.__class__") "__get__" = some (some (.builtin "getset_descriptor.__get__"))
  htk : PySem.W.takesIn K (.builtin "object.__class__") = some true
  hm : PySem.W.mroIn K C (.type "object") = some true
abbrev tyNames : List String := ["NoneType", "bool", "int", "str", "list", "tuple", "dict"]
theorem tyD_mem {d : D} {n : String} (h : tyD d = some n) : n ∈ tyNames := by
  cases d <;> cases h <;> decide
theorem tyx_ins {K : PySem.W.Frag} {H : Hp} {a C dx : Addr} {fs : List (Str × V)} (c : InsC K C) (e : H a = some (.ins C dx fs)) : TyX K H (.ref a) (.ref C) := .base (.ins e c.cl c.ha c.hn c.htk c.hm)
/-- a kind that == and isinstance take: built-in data, or an instance of C -/
def tyOk (C : Addr) : D → Prop
  | .at _ => False
  | .ins C' _ _ => C' = C
  | _ => True
def isC : D → Bool
  | .ins _ _ _ => true
  | _ => false
theorem ty_of {K : PySem.W.Frag} {G H : Hp} {C : Addr} {v : V} {d : D} (c : InsC K C) (k : tyOk C d) (g : Same G H) (h : Dv K G v d) : (isC d = true ∧ TyX K H v (.ref C)) ∨ (isC d = false ∧ ∃ n, n ∈ tyNames ∧ TyX K H v (.type n)) := by
  cases d with
  | ins C' ns ds =>
    cases (show C' = C from k)
    cases h with
    | ins h1 h2 => exact .inl ⟨rfl, tyx_ins c (g _ _ h1)⟩
  | «at» _ => exact k.elim
  | non => exact .inr ⟨rfl, _, tyD_mem (d := .non) rfl, tyX_of (d := .non) rfl g h⟩
  | bl b => exact .inr ⟨rfl, _, tyD_mem (d := .bl b) rfl, tyX_of (d := .bl b) rfl g h⟩
  | int b => exact .inr ⟨rfl, _, tyD_mem (d := .int b) rfl, tyX_of (d := .int b) rfl g h⟩
  | str b => exact .inr ⟨rfl, _, tyD_mem (d := .str b) rfl, tyX_of (d := .str b) rfl g h⟩
  | lst b => exact .inr ⟨rfl, _, tyD_mem (d := .lst b) rfl, tyX_of (d := .lst b) rfl g h⟩
  | tup b => exact .inr ⟨rfl, _, tyD_mem (d := .tup b) rfl, tyX_of (d := .tup b) rfl g h⟩
  | dk b b' => exact .inr ⟨rfl, _, tyD_mem (d := .dk b b') rfl, tyX_of (d := .dk b b') rfl g h⟩
  | dt b b' => exact .inr ⟨rfl, _, tyD_mem (d := .dt b b') rfl, tyX_of (d := .dt b b') rfl g h⟩
section
variable {kk : Dek} {X : Cx} {W : Wd kk} {a b c e o : Expr} {es : List Expr} {ta tb tc te : DT} {t : DTA} {C f : Addr} {fd : FuncData} {ps : List Str} {sp : DSp} {l : Nat} {x m : Str} {p p2 q pos apos : Pos}
/-! ### isinstance(x, C) -/
def dIsiC (C : Addr) (t : DT) : DT := fun S P => t S fun x S1 => tyOk C x ∧ P (.bl (isC x)) S1
theorem de_isC (I : InsC X.K C) (yes : PySem.W.kitOne X.K (.ref C) (.ref C) = some true) (no : ∀ n ∈ tyNames, PySem.W.kitOne X.K (.type n) (.ref C) = some false) (hg : Gl X "isinstance") (hm : X.mg "isinstance" = none) (he : DE X W e te) (ht : PE X c (tC (.ref C)))
    (hs : starEach [e, c] X.env = (false, eval e X.env) :: starEach [c] X.env := by rfl) (hs2 : starEach [c] X.env = (false, eval c X.env) :: starEach [] X.env := by rfl)
    (hpl : (backTo pos (starEach [c] X.env)).any (·.1) = false := by rfl) : DE X W (.Call (.Name "isinstance" p) [e, c] [] pos) (dIsiC C te) := by
  refine pe_imp (pe_callB call_isi hg hm boot_isinstance (pa_cons he (pa_cons ht pa_nil hs2) hs) (by decide) (by decide) hs hpl) fun σ H Q ⟨G, S, P, R, p, q⟩ => ?_
  refine ⟨G, S, _, R, p, fun x S1 ⟨k, p1⟩ v H1 G1 s1 R1 d1 => ?_⟩
  show rIsi X.K [v, .ref C] H1 Q
  rcases ty_of I k R1.gh d1 with ⟨ec, ty⟩ | ⟨ec, n, hn, ty⟩
  · exact ⟨v, .ref C, _, _, true, rfl, .own C, ty, yes, by rw [← ec]; exact q _ S1 p1 _ H1 G1 s1 R1 (.bl _)⟩
  · exact ⟨v, .ref C, _, _, false, rfl, .own C, ty, no n hn, by rw [← ec]; exact q _ S1 p1 _ H1 G1 s1 R1 (.bl _)⟩
/-! ### x.f -/
def lookD : List Str → List D → Str → Option D
  | n :: ns, d :: ds, f => if f == n then some d else lookD ns ds f
  | _, _, _ => none
theorem look_dv {K : PySem.W.Frag} {G : Hp} {f : Str} {d : D} : ∀ {fs : List (Str × V)} {ds : List D}, DvAll K G (fs.map (·.2)) ds → lookD (fs.map (·.1)) ds f = some d → ∃ v, fs.lookup f = some v ∧ Dv K G v d
  | [], _, _, e => by cases ‹List D› <;> cases e
  | (n, v) :: fs, _, h, e => by
    cases h with
    | @cons _ _ d' ds h1 h2 =>
      have e : (if f == n then some d' else lookD (fs.map (·.1)) ds f) = some d := e
      rw [List.lookup_cons]
      by_cases z : (f == n) = true
      · rw [if_pos z] at e; cases e; rw [z]; exact ⟨v, rfl, h1⟩
      · rw [if_neg z] at e; rw [show (f == n) = false from by simpa using z]; exact look_dv h2 e
def dFld (K : PySem.W.Frag) (C : Addr) (f : Str) (t : DT) : DT := fun S P => t S fun x S1 => ∃ ns ds d, x = .ins C ns ds ∧ lookD ns ds f = some d ∧ P d S1
theorem de_fld {f : Str} (c : Cls X.K C) (n : NoAttr X.K C f) (he : DE X W e te) (hb : attributeBase e f X.env (eval e X.env) = eval e X.env := by rfl) : DE X W (.Attribute e f pos) (dFld X.K C f te) := by
  refine pe_imp (pe_fld he hb) fun σ H Q ⟨G, S, P, R, p, q⟩ => ?_
  refine ⟨G, S, _, R, p, fun x S1 ⟨ns, ds, d, ex, el, p1⟩ v H1 G1 s1 R1 d1 => ?_⟩
  subst ex
  cases d1 with
  | @ins b _ dx fs _ h1 h2 =>
    obtain ⟨w, ew, dw⟩ := look_dv h2 el
    exact ⟨b, C, dx, fs, w, rfl, R1.gh _ _ h1, c, n, ew, q _ S1 p1 _ H1 G1 s1 R1 dw⟩
/-! ### self.f = x, self owned -/
def putN (f : Str) (d : D) : List Str → List D → List Str × List D
  | n :: ns, y :: ds => if n = f then (n :: ns, d :: ds) else ((n :: (putN f d ns ds).1), (y :: (putN f d ns ds).2))
  | ns, ds => ([f], [d])
theorem putN_dv {K : PySem.W.Frag} {G : Hp} {f : Str} {d : D} {v : V} (hv : Dv K G v d) : ∀ {fs : List (Str × V)} {ds : List D}, DvAll K G (fs.map (·.2)) ds → (putF f v fs).map (·.1) = (putN f d (fs.map (·.1)) ds).1 ∧ DvAll K G ((putF f v fs).map (·.2)) (putN f d (fs.map (·.1)) ds).2
  | [], _, h => by cases h; exact ⟨rfl, .cons hv .nil⟩
  | (n, w) :: fs, _, h => by
    cases h with
    | @cons _ _ d' ds h1 h2 =>
      obtain ⟨i1, i2⟩ := putN_dv hv h2
      show ((if n = f then (n, v) :: fs else (n, w) :: putF f v fs).map (·.1)) = (if n = f then (n :: fs.map (·.1), d :: ds) else (n :: (putN f d (fs.map (·.1)) ds).1, d' :: (putN f d (fs.map (·.1)) ds).2)).1 ∧
        DvAll K G ((if n = f then (n, v) :: fs else (n, w) :: putF f v fs).map (·.2)) (if n = f then (n :: fs.map (·.1), d :: ds) else (n :: (putN f d (fs.map (·.1)) ds).1, d' :: (putN f d (fs.map (·.1)) ds).2)).2
      by_cases z : n = f
      · rw [if_pos z, if_pos z]; exact ⟨rfl, .cons hv h2⟩
      · rw [if_neg z, if_neg z]; exact ⟨by rw [List.map_cons, i1], .cons h1 i2⟩
def dSFld (i : Nat) (C : Addr) (f : Str) (t : DT) : DST := fun E S => t S fun d S1 => ∃ ns ds, getS S1.ρ i = some (.o (.ins C ns ds)) ∧ ns.length < 1000 ∧ E.nx (putO S1 i (.ins C (putN f d ns ds).1 (putN f d ns ds).2))
theorem ds_fld {i : Nat} {y f : Str} (c : Cls X.K C) (n : NoAttr X.K C f) (hn : PE X (.Name y p) (tVar i)) (he : DE X W e te) (hs : swapsWith e (some (.Attribute (.Name y p) f apos)) pos.line X.env = pure false := by rfl) : DS X W (.Assign [.Attribute (.Name y p) f apos] e pos) (dSFld i C f te) := by
  refine ps_imp (ps_fld hn he hs) fun N σ H ⟨G, S, E, R, p, ok⟩ => ?_
  refine ⟨G, S, _, R, p, fun d S1 ⟨ns, ds, eg, hl, p1⟩ v H1 G1 s1 R1 d1 => ?_⟩
  obtain ⟨w, ew, b, rfl, fr, dx, fs, e1, e2, e3⟩ := R1.sl i _ eg
  subst e2
  obtain ⟨i1, i2⟩ := putN_dv (f := f) d1 e3
  refine ⟨_, ew, b, C, dx, fs, rfl, e1, c, n, by rw [List.length_map] at hl; exact hl, ok.nx _ _ _ G1 s1 p1 ?_⟩
  exact R1.wrO eg ew fr ⟨dx, _, upd_same, i1, i2⟩
/-! ### o.m(..) -/
def dMeth (C : Addr) (m : Str) (sp : DSp) (ta : DT) (t : DTA) : DT := fun S P => ta S fun x S1 => (∃ ns ds, x = .ins C ns ds ∧ m ∉ ns) ∧ t S1 fun es S2 => sp (x :: es) S2.dr fun d n => P d ⟨S2.ρ, n⟩
theorem de_meth {pl : Sem Bool} (he : DE X W o ta) (c : Cls X.K C) (hm : Meth X.K C m f) (F : FnK X.prog X.w X.K X.mg X.base l f fd ps kk sp) (hr : Room l X.A) (hb : Binds X.K fd ps []) (ha : DA X W (e :: es) t)
    (hst : starEach (e :: es) X.env = (false, eval e X.env) :: starEach es X.env := by rfl) (hpl : (backTo pos (starEach es X.env)).any (·.1) = false := by rfl)
    (ht : eval (.Call (.Attribute o m apos) (e :: es) [] pos) X.env = (do
      let ov ← eval o X.env
      standAt apos.atName
      let (f, first) ← holding [ov] (getMethod ov m pl)
      callWith pos f first (backTo pos (starEach (e :: es) X.env)) (backToKw pos (keywordEach [] X.env))) := by rfl) :
    DE X W (.Call (.Attribute o m apos) (e :: es) [] pos) (dMeth C m sp ta t) := by
  refine pe_imp (pe_meth (E := E0) he c hm F hr hb .nil pass0 ha hst hpl ht) fun σ H Q ⟨G, S, P, R, p, q⟩ => ?_
  refine ⟨G, S, _, R, p, fun x S1 ⟨⟨ns, ds, ex, hn⟩, p1⟩ v H1 G1 s1 R1 d1 => ?_⟩
  subst ex
  cases d1 with
  | @ins b _ dx fs _ h1 h2 =>
    refine ⟨b, dx, fs, rfl, R1.gh _ _ h1, ?_, G1, S1, _, R1, p1, fun es' S2 p2 vs H2 G2 s2 R2 dv => ?_⟩
    · rw [List.lookup_eq_none_iff]
      intro y hy
      exact bne_iff_ne.mpr fun z => hn (List.mem_map.mpr ⟨y, hy, z.symm⟩)
    · show spL X.K kk sp (V.ref b :: (vs ++ [])) H2 Q E0
      rw [List.append_nil]
      exact after_call R2 (.cons (Dv.up s2 _ _ (.ins h1 h2)) dv) p2 fun d S3 p3 v H3 G3 s3 R3 dv3 => q d S3 p3 v H3 G3 ((s1.trans s2).trans s3) R3 dv3
/-! ### x == y by an own def -/
theorem op_ownEq {sp : Sp} (F : FnOk X.prog X.w X.K X.mg X.base CX0 l f fd ps sp) (hr : Room l X.A) (hs : PySem.W.findIn X.K (.ref C) "__eq__" = some (some (.ref f))) (hf : PySem.W.isFn X.K (.ref f) = true) (hb : Binds X.K fd ps []) :
    OpR X (compareOp .Eq) (fun x y H Q => ∃ a dx fs t, x = .ref a ∧ H a = some (.ins C dx fs) ∧ TyX X.K H y t ∧ PySem.W.notFirst X.K C t = true ∧ sp [x, y] H Q E0) := by
  intro pins s σ H x y v u Q I rx ry ⟨a, dx, fs, t, ex, ha, ty, hn, q⟩
  subst ex
  cases (show v = Value.ref a from rx)
  obtain ⟨mA, J, _⟩ := ins_get I.hok ha
  obtain ⟨od, J, _⟩ := J.look
  obtain ⟨Z, kx, pz, _⟩ := kit_of I ry ty
  obtain ⟨m, hF⟩ := I.fr
  refine PySem.W.cmp_K (op := .Eq) (tb := t) hr.units0 hF I.ok.mod.kin J (kx.ty _ _ I.kIn pz) hn hs hf ?_
  refine wpAny_mono (run_fn (us := [.ref a, u]) (vs := [.ref a, y]) (dvs := []) (E := E0) F hr hb .nil pass0 I (.cons rfl (.cons ry .nil)) (by rw [List.append_nil]; exact q)) (fun w s' z => ?_) fun _ _ x => x
  obtain ⟨z', H', I', rz, qz⟩ := z
  exact SlX.cmpback rz ⟨z', H', I', rz, qz⟩
def dOwnEq (C : Addr) (sp : DSp) (ta tb : DT) : DT := fun S P => ta S fun x S1 => tb S1 fun y S2 => (∃ ns ds, x = .ins C ns ds) ∧ tyOk C y ∧ sp [x, y] S2.dr fun d n => P d ⟨S2.ρ, n⟩
theorem lift_own {r : R2} (I : InsC X.K C) (no : ∀ n ∈ tyNames, PySem.W.notFirst X.K C (.type n) = true) (er : r = fun x y H Q => ∃ a dx fs t, x = .ref a ∧ H a = some (.ins C dx fs) ∧ TyX X.K H y t ∧ PySem.W.notFirst X.K C t = true ∧ spL X.K kk sp [x, y] H Q E0) (σ : L2.St) (H : Hp) (Q : VK) (h : lift W X.K (dOwnEq C sp ta tb) σ H Q) : tOp r (lift W X.K ta) (lift W X.K tb) σ H Q := by
  subst er
  obtain ⟨G, S, P, R, p, q⟩ := h
  refine ⟨G, S, _, R, p, fun x S1 p1 v H1 G1 s1 R1 d1 => ⟨G1, S1, _, R1, p1, fun y S2 ⟨⟨ns, ds, ex⟩, k, p2⟩ w H2 G2 s2 R2 d2 => ?_⟩⟩
  subst ex
  have d1' := Dv.up s2 _ _ d1
  have fin : spL X.K kk sp [v, w] H2 Q E0 := after_call R2 (.cons d1' (.cons d2 .nil)) p2 fun d S3 p3 u H3 G3 s3 R3 dv3 => q d S3 p3 u H3 G3 ((s1.trans s2).trans s3) R3 dv3
  cases d1' with
  | @ins b _ dx fs _ h1 h2 =>
    rcases ty_of I k R2.gh d2 with ⟨_, ty⟩ | ⟨_, n, hn, ty⟩
    · exact ⟨b, dx, fs, _, rfl, R2.gh _ _ h1, ty, by simp [PySem.W.notFirst], fin⟩
    · exact ⟨b, dx, fs, _, rfl, R2.gh _ _ h1, ty, no n hn, fin⟩
theorem de_ownEq (I : InsC X.K C) (F : FnK X.prog X.w X.K X.mg X.base l f fd ps kk sp) (hr : Room l X.A) (hs : PySem.W.findIn X.K (.ref C) "__eq__" = some (some (.ref f))) (hf : PySem.W.isFn X.K (.ref f) = true) (hb : Binds X.K fd ps [])
    (no : ∀ n ∈ tyNames, PySem.W.notFirst X.K C (.type n) = true) (ha : DE X W a ta) (hb2 : DE X W b tb) : DE X W (.Compare a [.Eq] [b] pos) (dOwnEq C sp ta tb) :=
  pe_imp (pe_cmpR (op_ownEq F hr hs hf hb) ha hb2 (nobehind _ (by decide) (by decide))) fun σ H Q h => lift_own I no rfl σ H Q h
theorem dt_ownEq (I : InsC X.K C) (F : FnK X.prog X.w X.K X.mg X.base l f fd ps kk sp) (hr : Room l X.A) (hs : PySem.W.findIn X.K (.ref C) "__eq__" = some (some (.ref f))) (hf : PySem.W.isFn X.K (.ref f) = true) (hb : Binds X.K fd ps [])
    (no : ∀ n ∈ tyNames, PySem.W.notFirst X.K C (.type n) = true) (ha : DE X W a ta) (hb2 : DE X W b tb) : DTe X W (.Compare a [.Eq] [b] pos) (dBool (dOwnEq C sp ta tb)) :=
  pt_imp (pt_cmpR (op_ownEq F hr hs hf hb) ha hb2 (nobehind _ (by decide) (by decide))) fun σ H Q h => lift_own I no rfl σ H _ (lift_bool σ H Q h)
/-! ### d.get((..)) -/
def getK (acc : List (List Key × D)) (k : List Key) : Option D := (acc.find? fun p => decide (p.1 = k)).map (·.2)
theorem kvd_of {K : PySem.W.Frag} {G : Hp} : ∀ {kvs : List (List Key × V)} {acc : List (List Key × D)}, acc.map (·.1) = kvs.map (·.1) → DvAll K G (kvs.map (·.2)) (acc.map (·.2)) → KvD K G kvs acc
  | [], [], _, _ => .nil
  | [], _ :: _, e, _ => by cases e
  | _ :: _, [], e, _ => by cases e
  | (k, v) :: kvs, (k', d) :: acc, e, h => by
    rw [List.map_cons, List.map_cons] at e
    injection e with e1 e2
    have e1 : k' = k := e1
    subst e1
    cases h with | cons h1 h2 => exact .cons h1 (kvd_of e2 h2)
theorem KvD.get {K : PySem.W.Frag} {G : Hp} {k : List Key} : ∀ {kvs : List (List Key × V)} {acc : List (List Key × D)}, KvD K G kvs acc → Dv K G ((valV kvs k).getD .non) ((getK acc k).getD .non)
  | _, _, .nil => .non
  | _, _, @KvD.cons _ _ k' v d r t h1 h2 => by
    by_cases e : k' = k
    · have a1 : valV ((k', v) :: r) k = some v := valV_pos e
      have a2 : getK ((k', d) :: t) k = some d := by unfold getK; rw [List.find?_cons]; simp [e]
      rw [a1, a2]; exact h1
    · have a1 : valV ((k', v) :: r) k = valV r k := valV_neg e
      have a2 : getK ((k', d) :: t) k = getK t k := by unfold getK; rw [List.find?_cons]; simp [e]
      rw [a1, a2]; exact h2.get
def keyON : List D → Option (List (Option Key))
  | [] => some []
  | .int i :: ds => (keyON ds).map (some (.inl i) :: ·)
  | .str z :: ds => (keyON ds).map (some (.inr z) :: ·)
  | .non :: ds => (keyON ds).map (none :: ·)
  | _ :: _ => none
theorem keyON_dv {K : PySem.W.Frag} {G : Hp} : ∀ {ds : List D} {k : List (Option Key)} {xs : List V}, keyON ds = some k → DvAll K G xs ds → xs = k.map oV
  | [], _, _, e, h => by cases e; cases h; rfl
  | .int i :: ds, _, _, e, h => by
    obtain ⟨k, e2, rfl⟩ := Option.map_eq_some_iff.mp (show (keyON ds).map _ = _ from e)
    cases h with | cons h1 h2 => cases h1; rw [List.map_cons, ← keyON_dv e2 h2]; rfl
  | .str i :: ds, _, _, e, h => by
    obtain ⟨k, e2, rfl⟩ := Option.map_eq_some_iff.mp (show (keyON ds).map _ = _ from e)
    cases h with | cons h1 h2 => cases h1; rw [List.map_cons, ← keyON_dv e2 h2]; rfl
  | .non :: ds, _, _, e, h => by
    obtain ⟨k, e2, rfl⟩ := Option.map_eq_some_iff.mp (show (keyON ds).map _ = _ from e)
    cases h with | cons h1 h2 => cases h1; rw [List.map_cons, ← keyON_dv e2 h2]; rfl
def dGet (td ty : DT) : DT := fun S P => td S fun x S1 => ∃ acc : List (List Key × D), x = .dt (acc.map (·.1)) (acc.map (·.2)) ∧ ty S1 fun y S2 => ∃ es, y = .tup es ∧ ((∃ k, keyOf es = some k ∧ P ((getK acc k).getD .non) S2) ∨ ∃ k, keyON es = some k ∧ none ∈ k ∧ P .non S2)
theorem de_get (hu : X.A.units + 64 < cLine) (ho : DE X W o ta) (he : DE X W e tb) (m : M1 X o "get" apos e pos) : DE X W (.Call (.Attribute o "get" apos) [e] [] pos) (dGet ta tb) := by
  refine pe_imp (pe_getN (by omega) ho he m) fun σ H Q ⟨G, S, P, R, p, q⟩ => ?_
  refine ⟨G, S, _, R, p, fun x S1 ⟨acc, ex, p1⟩ v H1 G1 s1 R1 d1 => ?_⟩
  subst ex
  generalize hks : acc.map (·.1) = ks at d1
  cases d1 with
  | @dt b kvs _ h1 h2 =>
    refine ⟨b, kvs, rfl, R1.gh _ _ h1, G1, S1, _, R1, p1, fun y S2 ⟨es, ey, p2⟩ w H2 G2 s2 R2 d2 => ?_⟩
    subst ey
    refine ⟨R2.gh _ _ (s2 _ _ h1), ?_⟩
    cases d2 with
    | @tup c xs _ k1 k2 =>
      refine ⟨c, rfl, ?_⟩
      rcases p2 with ⟨k, ek, p2⟩ | ⟨k, ek, hn, p2⟩
      · have ex := keyOf_dv ek k2
        subst ex
        exact .inl ⟨k, R2.gh _ _ k1, q _ S2 p2 _ H2 G2 (s1.trans s2) R2 (Dv.up s2 _ _ (KvD.get (kvd_of hks h2)))⟩
      · have ex := keyON_dv ek k2
        subst ex
        exact .inr ⟨k, SqT.of (R2.gh _ _ k1), hn, q _ S2 p2 _ H2 G2 (s1.trans s2) R2 .non⟩
/-! ### name = [.. for ..], the name a local -/
theorem ds_setLc {i : Nat} {y : Str} {py spos : Pos} {elt tg iter : Expr} {ifs : List Expr} {scope : Scope} {own : List (Str × Nat)} {is : List Nat} {wi : DIT} {g : DGT} {tt : DTT} {te : DT} (hc : X.calm = true) (hN : X.N.Nodup) (hy : X.N[i]? = some y) (hyl : X.env.scope.names.lookup y = some .local)
    (hk : X.env.scope.kind = .function) (hl : (py.line == pos.line) = true) (hna : (scope.names.any fun (n, k) => n == y && (k == .local || k == .cell)) = false) (hi : DI X W tg iter wi) (ok : BlkOk X.N X.env.scope scope own)
    (hg : ∀ (s : Shared) (H : Hp) (C : Addr) (cl : List (Str × Addr)) (fp : List Addr) (W' : Wd kk), DG (X.blk s H scope (compEnvC scope cl C X.env) fp) W' tg is g)
    (ht : ∀ (s : Shared) (H : Hp) (C : Addr) (cl : List (Str × Addr)) (fp : List Addr) (W' : Wd kk), DTs (X.blk s H scope (compEnvC scope cl C X.env) fp) W' ifs tt)
    (he : ∀ (s : Shared) (H : Hp) (C : Addr) (cl : List (Str × Addr)) (fp : List Addr) (W' : Wd kk), DE (X.blk s H scope (compEnvC scope cl C X.env) fp) W' elt te) (hsub : ∀ i ∈ is, i ∈ own.map (·.2) := by decide) (hs : ∀ x, foldedSetIterable iter X.env x = pure x := by intro _; rfl) :
    DS X W (.Assign [.Name y py] (.ListComp elt [⟨tg, iter, ifs, 0⟩] scope pos) spos) (dSetO (dLc wi g tt te (own.map (·.2))) i) :=
  ps_imp (ps_setLc hc hN hy hyl (sw_true hk hyl hl hna) hi ok (fun s H C cl fp => pg_anyG (hg s H C cl fp)) (fun s H C cl fp => pt_anyT (ht s H C cl fp)) (fun s H C cl fp => pe_anyE (he s H C cl fp)) hs) fun N σ H ⟨G, S, E, R, h, ok⟩ =>
    lift_lc hsub σ H _ ⟨G, S, _, R, h, fun d S1 p1 a H1 G1 s1 R1 f o no => ok.nx _ _ H1 G1 s1 p1 (R1.setO f o no)⟩
/-! ### a, b, c = x, [], y, by way of a tuple -/
theorem ds_par3C {i j l : Nat} {x y z : Str} {px py pz pt pl : Pos} {kt k2 pt2} (hcm : X.calm = true) (hN : X.N.Nodup) (hi : X.N[i]? = some x) (hj : X.N[j]? = some y) (hl : X.N[l]? = some z)
    (hx : Loc X.env.scope x) (hy : Loc X.env.scope y) (hz : Loc X.env.scope z) (fx : X.fn x = true ∨ X.env.scope.names.lookup x = some .local) (fy : X.fn y = true ∨ X.env.scope.names.lookup y = some .local) (fz : X.fn z = true ∨ X.env.scope.names.lookup z = some .local) (ha : DE X W a ta) (hc : ∀ W' : Wd kk, DE X W' c tc)
    (hw : swappedStores [.Tuple [.Name x px, .Name y py, .Name z pz] kt pt] (.Tuple [a, .List [] pl, c] k2 pt2) X.env = pure none := by rfl)
    (hs : swapsWithSole [.Tuple [.Name x px, .Name y py, .Name z pz] kt pt] (.Tuple [a, .List [] pl, c] k2 pt2) pos.line X.env = pure false := by rfl)
    (h1 : starEach [a, .List [] pl, c] X.env = (false, eval a X.env) :: starEach [.List [] pl, c] X.env := by rfl) (h2 : starEach [.List [] pl, c] X.env = (false, eval (.List [] pl) X.env) :: starEach [c] X.env := by rfl) (h3 : starEach [c] X.env = (false, eval c X.env) :: starEach [] X.env := by rfl)
    (a1 : (assignEach [.Name x px, .Name y py, .Name z pz] X.env).map (·.2) = assign (.Name x px) X.env :: (assignEach [.Name y py, .Name z pz] X.env).map (·.2) := by rfl)
    (a2 : (assignEach [.Name y py, .Name z pz] X.env).map (·.2) = assign (.Name y py) X.env :: (assignEach [.Name z pz] X.env).map (·.2) := by rfl)
    (a3 : (assignEach [.Name z pz] X.env).map (·.2) = assign (.Name z pz) X.env :: (assignEach [] X.env).map (·.2) := by rfl)
    (hn : (assignEach [.Name x px, .Name y py, .Name z pz] X.env).length = 3 := by rfl) (hst : (assignEach [.Name x px, .Name y py, .Name z pz] X.env).findIdx? (·.1) = none := by rfl) :
    DS X W (.Assign [.Tuple [.Name x px, .Name y py, .Name z pz] kt pt] (.Tuple [a, .List [] pl, c] k2 pt2) pos) (dPar3 i j l ta tc) := by
  refine ps_imp (ps_asg (pe_tup (pa_cons ha (pa_cons (pe_lst pa_nil) (pa_cons (pe_anyE hc) pa_nil h3) h2) h1)) (pg_tup hcm (pgs_cons (pg_name hN hi hx fx) (pgs_cons (pg_name hN hj hy fy) (pgs_cons (pg_name hN hl hz fz) pgs_nil a3) a2) a1) hn hst) hs hw) fun N σ H ⟨G, S, E, R, p, ok⟩ => ?_
  refine ⟨G, S, _, R, p, fun x S1 p1 v H1 G1 s1 R1 d1 => ⟨Nat.zero_le _, fun r hr => ?_⟩⟩
  obtain ⟨R2, f, no⟩ := R1.fresh (u := .lst []) hr
  refine ⟨W.plus r (.lst []) f.d, G1, S1, _, R2.plus f no upd_same, p1, fun z S2 p2 w H3 G3 s3 R3 d3 => ⟨by show 3 ≤ sizeLine; decide, fun q hq => ?_⟩⟩
  obtain ⟨R4, f4, no4, e4⟩ := Rep.less f.f (R1.bg.free f.g) R3
  refine ⟨q, _, rfl, SqT.of upd_same, rfl, v, _, rfl, .ref r, _, rfl, w, _, rfl, rfl, ?_⟩
  have R5 := (R4.newO (o := .tup [v, .ref r, w]) hq).1
  have R6 := R5.setV (i := i) (Dv.up s3 _ _ d1)
  have eo : upd H3 q (.tup [v, .ref r, w]) r = some (.lst []) := by rw [upd_ne (ne_of_none e4 hq)]; exact e4
  have R7 := R6.setO (i := j) f4 (show Own X.K G3 _ r (.lst []) from ⟨[], eo, .nil⟩) (noOwn_setV no4)
  exact ok.nx _ _ _ G3 (s1.trans s3) p2 (R7.setV d3)
theorem dt_chain {op op' : CmpOp} {g g' : D → D → (D → Prop) → Prop} (ho : DOpB X W (compareOp op) g) (ho' : DOpB X W (compareOp op') g') (ha : DE X W a ta) (hb : DE X W b tb) (hc : DE X W c tc)
    (hm : lastMarks [op, op'] [b, c] = false := by with_unfolding_all rfl) : DTe X W (.Compare a [op, op'] [b, c] pos) (dBool (dChain g g' ta tb tc)) := by
  obtain ⟨r, o, k⟩ := ho
  obtain ⟨r', o', k'⟩ := ho'
  exact pt_imp (pt_chain o o' ha hb hc hm) fun σ H Q h => lift_chain k k' σ H _ (lift_bool σ H Q h)
end
end Dl
namespace K44
open PySem PySem.Spec PyProof.Rows L2 Sw Dl
def top (i : Nat) : Stmt := PySem.Challenge.pw_streamwrights_k44_markings_of_any_value.main.body.getD i (.Pass ⟨0, 0, 0, 0⟩)
def inClass (s : Stmt) (j : Nat) : Stmt := match s with
  | .ClassDef _ _ _ body _ _ _ _ _ _ _ => body.getD j (.Pass ⟨0, 0, 0, 0⟩)
  | s => s
structure Tx (K : PySem.W.Frag) (mg : Str → Option Value) where
  f_is_integer : Addr
  d_is_integer : FuncData
  F_is_integer : FunD K "is_integer" "is_integer" (defArgs (top 4)) (defBody (top 4)) (defScope (top 4)) [] [] f_is_integer d_is_integer
  g_is_integer : mg "is_integer" = some (.ref f_is_integer)
  f_is_index : Addr
  d_is_index : FuncData
  F_is_index : FunD K "is_index" "is_index" (defArgs (top 5)) (defBody (top 5)) (defScope (top 5)) [] [] f_is_index d_is_index
  g_is_index : mg "is_index" = some (.ref f_is_index)
  f_is_letter : Addr
  d_is_letter : FuncData
  F_is_letter : FunD K "is_letter" "is_letter" (defArgs (top 6)) (defBody (top 6)) (defScope (top 6)) [] [] f_is_letter d_is_letter
  g_is_letter : mg "is_letter" = some (.ref f_is_letter)
  f_is_tuple_of : Addr
  d_is_tuple_of : FuncData
  F_is_tuple_of : FunD K "is_tuple_of" "is_tuple_of" (defArgs (top 7)) (defBody (top 7)) (defScope (top 7)) [] [] f_is_tuple_of d_is_tuple_of
  g_is_tuple_of : mg "is_tuple_of" = some (.ref f_is_tuple_of)
  f_is_ascending : Addr
  d_is_ascending : FuncData
  F_is_ascending : FunD K "is_ascending" "is_ascending" (defArgs (top 8)) (defBody (top 8)) (defScope (top 8)) [] [] f_is_ascending d_is_ascending
  g_is_ascending : mg "is_ascending" = some (.ref f_is_ascending)
  f_is_move : Addr
  d_is_move : FuncData
  F_is_move : FunD K "is_move" "is_move" (defArgs (top 10)) (defBody (top 10)) (defScope (top 10)) [] [] f_is_move d_is_move
  g_is_move : mg "is_move" = some (.ref f_is_move)
  f_is_moves : Addr
  d_is_moves : FuncData
  F_is_moves : FunD K "is_moves" "is_moves" (defArgs (top 12)) (defBody (top 12)) (defScope (top 12)) [] [] f_is_moves d_is_moves
  g_is_moves : mg "is_moves" = some (.ref f_is_moves)
  f__law_deck : Addr
  d__law_deck : FuncData
  F__law_deck : FunD K "_law_deck" "_law_deck" (defArgs (top 15)) (defBody (top 15)) (defScope (top 15)) [] [] f__law_deck d__law_deck
  g__law_deck : mg "_law_deck" = some (.ref f__law_deck)
  f__law_draw : Addr
  d__law_draw : FuncData
  F__law_draw : FunD K "_law_draw" "_law_draw" (defArgs (top 16)) (defBody (top 16)) (defScope (top 16)) [] [] f__law_draw d__law_draw
  g__law_draw : mg "_law_draw" = some (.ref f__law_draw)
  f__law_pick : Addr
  d__law_pick : FuncData
  F__law_pick : FunD K "_law_pick" "_law_pick" (defArgs (top 17)) (defBody (top 17)) (defScope (top 17)) [] [] f__law_pick d__law_pick
  g__law_pick : mg "_law_pick" = some (.ref f__law_pick)
  f__law_bent : Addr
  d__law_bent : FuncData
  F__law_bent : FunD K "_law_bent" "_law_bent" (defArgs (top 18)) (defBody (top 18)) (defScope (top 18)) [] [] f__law_bent d__law_bent
  g__law_bent : mg "_law_bent" = some (.ref f__law_bent)
  f__law_is_whole : Addr
  d__law_is_whole : FuncData
  F__law_is_whole : FunD K "_law_is_whole" "_law_is_whole" (defArgs (top 19)) (defBody (top 19)) (defScope (top 19)) [] [] f__law_is_whole d__law_is_whole
  g__law_is_whole : mg "_law_is_whole" = some (.ref f__law_is_whole)
  f__law_page : Addr
  d__law_page : FuncData
  F__law_page : FunD K "_law_page" "_law_page" (defArgs (top 20)) (defBody (top 20)) (defScope (top 20)) [] [] f__law_page d__law_page
  g__law_page : mg "_law_page" = some (.ref f__law_page)
  f__law_due : Addr
  d__law_due : FuncData
  F__law_due : FunD K "_law_due" "_law_due" (defArgs (top 21)) (defBody (top 21)) (defScope (top 21)) [] [] f__law_due d__law_due
  g__law_due : mg "_law_due" = some (.ref f__law_due)
  f__law_heard : Addr
  d__law_heard : FuncData
  F__law_heard : FunD K "_law_heard" "_law_heard" (defArgs (top 22)) (defBody (top 22)) (defScope (top 22)) [] [] f__law_heard d__law_heard
  g__law_heard : mg "_law_heard" = some (.ref f__law_heard)
  f__law_behind : Addr
  d__law_behind : FuncData
  F__law_behind : FunD K "_law_behind" "_law_behind" (defArgs (top 23)) (defBody (top 23)) (defScope (top 23)) [] [] f__law_behind d__law_behind
  g__law_behind : mg "_law_behind" = some (.ref f__law_behind)
  f__law_drawn : Addr
  d__law_drawn : FuncData
  F__law_drawn : FunD K "_law_drawn" "_law_drawn" (defArgs (top 24)) (defBody (top 24)) (defScope (top 24)) [] [] f__law_drawn d__law_drawn
  g__law_drawn : mg "_law_drawn" = some (.ref f__law_drawn)
  f_law : Addr
  d_law : FuncData
  F_law : FunD K "law" "law" (defArgs (top 25)) (defBody (top 25)) (defScope (top 25)) [] [] f_law d_law
  g_law : mg "law" = some (.ref f_law)
  f_BadMarking____init__ : Addr
  d_BadMarking____init__ : FuncData
  F_BadMarking____init__ : FunD K "__init__" "BadMarking.__init__" (defArgs (inClass (top 2) 0)) (defBody (inClass (top 2) 0)) (defScope (inClass (top 2) 0)) [] [] f_BadMarking____init__ d_BadMarking____init__
  f_Marking____init__ : Addr
  d_Marking____init__ : FuncData
  F_Marking____init__ : FunD K "__init__" "Marking.__init__" (defArgs (inClass (top 13) 0)) (defBody (inClass (top 13) 0)) (defScope (inClass (top 13) 0)) [] [] f_Marking____init__ d_Marking____init__
  f_Marking____eq__ : Addr
  d_Marking____eq__ : FuncData
  F_Marking____eq__ : FunD K "__eq__" "Marking.__eq__" (defArgs (inClass (top 13) 1)) (defBody (inClass (top 13) 1)) (defScope (inClass (top 13) 1)) [] [] f_Marking____eq__ d_Marking____eq__
  f_Marking__told : Addr
  d_Marking__told : FuncData
  F_Marking__told : FunD K "told" "Marking.told" (defArgs (inClass (top 13) 2)) (defBody (inClass (top 13) 2)) (defScope (inClass (top 13) 2)) [] [] f_Marking__told d_Marking__told
  b_int : mg "int" = none
  b_str : mg "str" = none
  b_bool : mg "bool" = none
  b_tuple : mg "tuple" = none
  b_isinstance : mg "isinstance" = none
  b_len : mg "len" = none
  b_all : mg "all" = none
  b_range : mg "range" = none
  b_list : mg "list" = none
  b_sorted : mg "sorted" = none
  b_set : mg "set" = none
  b_repr : mg "repr" = none
  b_reversed : mg "reversed" = none
  c_StreamError : Addr
  c_BadMarking : Addr
  c_Marking : Addr
  gc_StreamError : mg "StreamError" = some (.ref c_StreamError)
  gc_BadMarking : mg "BadMarking" = some (.ref c_BadMarking)
  gc_Marking : mg "Marking" = some (.ref c_Marking)
theorem sc_is_integer : FnScope ["thing"] ["thing"] (defScope (top 4)) := ⟨rfl, rfl, rfl, by decide +kernel, rfl, by decide +kernel, by decide +kernel⟩
theorem bd_is_integer {K : PySem.W.Frag} {mg : Str → Option Value} (T : Tx K mg) : Binds K T.d_is_integer ["thing"] [] := T.F_is_integer.bindsN fun _ _ _ _ _ _ us hl => match us, hl with | [_], _ => rfl
theorem sc_is_index : FnScope ["thing", "size"] ["thing", "size"] (defScope (top 5)) := ⟨rfl, rfl, rfl, by decide +kernel, rfl, by decide +kernel, by decide +kernel⟩
theorem bd_is_index {K : PySem.W.Frag} {mg : Str → Option Value} (T : Tx K mg) : Binds K T.d_is_index ["thing", "size"] [] := T.F_is_index.bindsN fun _ _ _ _ _ _ us hl => match us, hl with | [_, _], _ => rfl
theorem sc_is_letter : FnScope ["thing"] ["thing"] (defScope (top 6)) := ⟨rfl, rfl, rfl, by decide +kernel, rfl, by decide +kernel, by decide +kernel⟩
theorem bd_is_letter {K : PySem.W.Frag} {mg : Str → Option Value} (T : Tx K mg) : Binds K T.d_is_letter ["thing"] [] := T.F_is_letter.bindsN fun _ _ _ _ _ _ us hl => match us, hl with | [_], _ => rfl
theorem sc_is_tuple_of : FnScope ["thing", "length"] ["thing", "length"] (defScope (top 7)) := ⟨rfl, rfl, rfl, by decide +kernel, rfl, by decide +kernel, by decide +kernel⟩
theorem bd_is_tuple_of {K : PySem.W.Frag} {mg : Str → Option Value} (T : Tx K mg) : Binds K T.d_is_tuple_of ["thing", "length"] [] := T.F_is_tuple_of.bindsN fun _ _ _ _ _ _ us hl => match us, hl with | [_, _], _ => rfl
theorem sc_is_ascending : FnScope ["rows", "at"] ["rows"] (defScope (top 8)) := ⟨rfl, rfl, rfl, by decide +kernel, rfl, by decide +kernel, by decide +kernel⟩
theorem bd_is_ascending {K : PySem.W.Frag} {mg : Str → Option Value} (T : Tx K mg) : Binds K T.d_is_ascending ["rows"] [] := T.F_is_ascending.bindsN fun _ _ _ _ _ _ us hl => match us, hl with | [_], _ => rfl
theorem sc_is_move : FnScope ["thing", "size"] ["thing", "size"] (defScope (top 10)) := ⟨rfl, rfl, rfl, by decide +kernel, rfl, by decide +kernel, by decide +kernel⟩
theorem bd_is_move {K : PySem.W.Frag} {mg : Str → Option Value} (T : Tx K mg) : Binds K T.d_is_move ["thing", "size"] [] := T.F_is_move.bindsN fun _ _ _ _ _ _ us hl => match us, hl with | [_, _], _ => rfl
theorem sc_is_moves : FnScope ["thing", "states", "move"] ["thing", "states"] (defScope (top 12)) := ⟨rfl, rfl, rfl, by decide +kernel, rfl, by decide +kernel, by decide +kernel⟩
theorem bd_is_moves {K : PySem.W.Frag} {mg : Str → Option Value} (T : Tx K mg) : Binds K T.d_is_moves ["thing", "states"] [] := T.F_is_moves.bindsN fun _ _ _ _ _ _ us hl => match us, hl with | [_, _], _ => rfl
theorem sc__law_deck : FnScope ["_law_script", "_law_cells", "_law_stirred", "_law_cell"] ["_law_script"] (defScope (top 15)) := ⟨rfl, rfl, rfl, by decide +kernel, rfl, by decide +kernel, by decide +kernel⟩
theorem bd__law_deck {K : PySem.W.Frag} {mg : Str → Option Value} (T : Tx K mg) : Binds K T.d__law_deck ["_law_script"] [] := T.F__law_deck.bindsN fun _ _ _ _ _ _ us hl => match us, hl with | [_], _ => rfl
theorem sc__law_draw : FnScope ["_law_deck_here", "_law_below", "_law_turn", "_law_figure", "_law_cell"] ["_law_deck_here", "_law_below"] (defScope (top 16)) := ⟨rfl, rfl, rfl, by decide +kernel, rfl, by decide +kernel, by decide +kernel⟩
theorem bd__law_draw {K : PySem.W.Frag} {mg : Str → Option Value} (T : Tx K mg) : Binds K T.d__law_draw ["_law_deck_here", "_law_below"] [] := T.F__law_draw.bindsN fun _ _ _ _ _ _ us hl => match us, hl with | [_, _], _ => rfl
theorem sc__law_pick : FnScope ["_law_deck_here", "_law_some"] ["_law_deck_here", "_law_some"] (defScope (top 17)) := ⟨rfl, rfl, rfl, by decide +kernel, rfl, by decide +kernel, by decide +kernel⟩
theorem bd__law_pick {K : PySem.W.Frag} {mg : Str → Option Value} (T : Tx K mg) : Binds K T.d__law_pick ["_law_deck_here", "_law_some"] [] := T.F__law_pick.bindsN fun _ _ _ _ _ _ us hl => match us, hl with | [_, _], _ => rfl
theorem sc__law_bent : FnScope ["_law_deck_here", "_law_it", "_law_odd", "_law_at", "_law_way"] ["_law_deck_here", "_law_it"] (defScope (top 18)) := ⟨rfl, rfl, rfl, by decide +kernel, rfl, by decide +kernel, by decide +kernel⟩
theorem bd__law_bent {K : PySem.W.Frag} {mg : Str → Option Value} (T : Tx K mg) : Binds K T.d__law_bent ["_law_deck_here", "_law_it"] [] := T.F__law_bent.bindsN fun _ _ _ _ _ _ us hl => match us, hl with | [_, _], _ => rfl
theorem sc__law_is_whole : FnScope ["_law_it", "_law_below"] ["_law_it", "_law_below"] (defScope (top 19)) := ⟨rfl, rfl, rfl, by decide +kernel, rfl, by decide +kernel, by decide +kernel⟩
theorem bd__law_is_whole {K : PySem.W.Frag} {mg : Str → Option Value} (T : Tx K mg) : Binds K T.d__law_is_whole ["_law_it", "_law_below"] [] := T.F__law_is_whole.bindsN fun _ _ _ _ _ _ us hl => match us, hl with | [_, _], _ => rfl
theorem sc__law_page : FnScope ["_law_deck_here", "_law_signs", "_law_most", "_law_go"] ["_law_deck_here", "_law_signs", "_law_most"] (defScope (top 20)) := ⟨rfl, rfl, rfl, by decide +kernel, rfl, by decide +kernel, by decide +kernel⟩
theorem bd__law_page {K : PySem.W.Frag} {mg : Str → Option Value} (T : Tx K mg) : Binds K T.d__law_page ["_law_deck_here", "_law_signs", "_law_most"] [] := T.F__law_page.bindsN fun _ _ _ _ _ _ us hl => match us, hl with | [_, _, _], _ => rfl
theorem sc__law_due : FnScope ["_law_size", "_law_lot", "_law_row", "_law_keys"] ["_law_size", "_law_lot"] (defScope (top 21)) := ⟨rfl, rfl, rfl, by decide +kernel, rfl, by decide +kernel, by decide +kernel⟩
theorem bd__law_due {K : PySem.W.Frag} {mg : Str → Option Value} (T : Tx K mg) : Binds K T.d__law_due ["_law_size", "_law_lot"] [] := T.F__law_due.bindsN fun _ _ _ _ _ _ us hl => match us, hl with | [_, _], _ => rfl
theorem sc__law_heard : FnScope ["_law_size", "_law_lot", "_law_is_named", "_law_found", "e"] ["_law_size", "_law_lot", "_law_is_named"] (defScope (top 22)) := ⟨rfl, rfl, rfl, by decide +kernel, rfl, by decide +kernel, by decide +kernel⟩
theorem bd__law_heard {K : PySem.W.Frag} {mg : Str → Option Value} (T : Tx K mg) : Binds K T.d__law_heard ["_law_size", "_law_lot", "_law_is_named"] [] := T.F__law_heard.bindsN fun _ _ _ _ _ _ us hl => match us, hl with | [_, _, _], _ => rfl
theorem sc__law_behind : FnScope ["_law_lot", "_law_page_here", "_law_spot", "_law_sign", "_law_some", "_law_row"] ["_law_lot", "_law_page_here"] (defScope (top 23)) := ⟨rfl, rfl, rfl, by decide +kernel, rfl, by decide +kernel, by decide +kernel⟩
theorem bd__law_behind {K : PySem.W.Frag} {mg : Str → Option Value} (T : Tx K mg) : Binds K T.d__law_behind ["_law_lot", "_law_page_here"] [] := T.F__law_behind.bindsN fun _ _ _ _ _ _ us hl => match us, hl with | [_, _], _ => rfl
theorem sc__law_drawn : FnScope ["_law_deck_here", "_law_size", "_law_lot", "_law_often", "_law_here", "_law_sign"] ["_law_deck_here"] (defScope (top 24)) := ⟨rfl, rfl, rfl, by decide +kernel, rfl, by decide +kernel, by decide +kernel⟩
theorem bd__law_drawn {K : PySem.W.Frag} {mg : Str → Option Value} (T : Tx K mg) : Binds K T.d__law_drawn ["_law_deck_here"] [] := T.F__law_drawn.bindsN fun _ _ _ _ _ _ us hl => match us, hl with | [_], _ => rfl
theorem sc_law : FnScope ["_law_script", "_law_deck_here", "_law_whole", "_law_bent_here", "_law_turn", "_law_one", "_law_due_here", "_law_told", "_law_pages", "_law_at", "_law_it", "_law_page_here", "_law_go"] ["_law_script"] (defScope (top 25)) := ⟨rfl, rfl, rfl, by decide +kernel, rfl, by decide +kernel, by decide +kernel⟩
theorem bd_law {K : PySem.W.Frag} {mg : Str → Option Value} (T : Tx K mg) : Binds K T.d_law ["_law_script"] [] := T.F_law.bindsN fun _ _ _ _ _ _ us hl => match us, hl with | [_], _ => rfl
theorem sc_BadMarking____init__ : FnScope ["self", "part"] ["self", "part"] (defScope (inClass (top 2) 0)) := ⟨rfl, rfl, rfl, by decide +kernel, rfl, by decide +kernel, by decide +kernel⟩
theorem bd_BadMarking____init__ {K : PySem.W.Frag} {mg : Str → Option Value} (T : Tx K mg) : Binds K T.d_BadMarking____init__ ["self", "part"] [] := T.F_BadMarking____init__.bindsN fun _ _ _ _ _ _ us hl => match us, hl with | [_, _], _ => rfl
theorem sc_Marking____init__ : FnScope ["self", "states", "moves", "state", "letter", "target"] ["self", "states", "moves"] (defScope (inClass (top 13) 0)) := ⟨rfl, rfl, rfl, by decide +kernel, rfl, by decide +kernel, by decide +kernel⟩
theorem bd_Marking____init__ {K : PySem.W.Frag} {mg : Str → Option Value} (T : Tx K mg) : Binds K T.d_Marking____init__ ["self", "states", "moves"] [] := T.F_Marking____init__.bindsN fun _ _ _ _ _ _ us hl => match us, hl with | [_, _, _], _ => rfl
theorem sc_Marking____eq__ : FnScope ["self", "other"] ["self", "other"] (defScope (inClass (top 13) 1)) := ⟨rfl, rfl, rfl, by decide +kernel, rfl, by decide +kernel, by decide +kernel⟩
theorem bd_Marking____eq__ {K : PySem.W.Frag} {mg : Str → Option Value} (T : Tx K mg) : Binds K T.d_Marking____eq__ ["self", "other"] [] := T.F_Marking____eq__.bindsN fun _ _ _ _ _ _ us hl => match us, hl with | [_, _], _ => rfl
theorem sc_Marking__told : FnScope ["self", "text", "state", "letter"] ["self", "text"] (defScope (inClass (top 13) 2)) := ⟨rfl, rfl, rfl, by decide +kernel, rfl, by decide +kernel, by decide +kernel⟩
theorem bd_Marking__told {K : PySem.W.Frag} {mg : Str → Option Value} (T : Tx K mg) : Binds K T.d_Marking__told ["self", "text"] [] := T.F_Marking__told.bindsN fun _ _ _ _ _ _ us hl => match us, hl with | [_, _], _ => rfl
end K44
namespace K44
open PySem PySem.Spec PyProof.Rows L2 Sw Dl
section
variable {P : Program} {w : World} {K : PySem.W.Frag} {mg : Str → Option Value} {base : Heap} {k : Dek}
def isInt : D → Bool
  | .int _ => true
  | _ => false
def isIdx (m : Int) : D → Bool
  | .int i => decide (0 ≤ i) && decide (i < m)
  | _ => false
def az (c : Nat) : Bool := decide (97 ≤ c) && decide (c ≤ 122)
def isLet : D → Bool
  | .str z => decide (z.length = 1) && z.cps.toList.all az
  | _ => false
def isTupN (m : Int) : D → Bool
  | .tup ds => decide ((ds.length : Int) = m)
  | _ => false
def spInteger : DSp := fun ds n P => ∃ d, ds = [d] ∧ plain d = true ∧ P (.bl (isInt d)) n
theorem ok_is_integer (T : Tx K mg) : FnK P w K mg base 1 T.f_is_integer T.d_is_integer ["thing"] k spInteger := by
  refine fnk_of T.F_is_integer sc_is_integer (fun ds n P h => ?_) fun cv A out s H E W ds n Q hr h => ?_
  · obtain ⟨_, rfl, _⟩ := h; rfl
  obtain ⟨x0, rfl, h⟩ := h
  refine ⟨_, (dss_one (ds_ret (de_and (de_isi dc_isInt (by rfl) T.b_isinstance (by decide +kernel) (dn 0) (dty (T := "int") (by rfl) T.b_int (by decide +kernel))) (de_one (de_not (de_isi dc_isBool (by rfl) T.b_isinstance (by decide +kernel) (dn 0) (dty (T := "bool") (by rfl) T.b_bool (by decide +kernel)))))))), ?_⟩
  dsimp only [dRet, dBack, dJoin, dRetN, dSeq, dNext, dIfS, dAnd, dOr, dNot, dIf, dBool, dNotT, dAndT, dOrT, dBin, dChain, dCall, dCB, dCons, dNil, dTup, dLst, dVar, dC, dAsg, gN, gsNil, gsCons, gT, dSetO, dFor, dIAny, dIR1, dIR2, dIZip, dIEnum, dIRev, dLc, dYes, dDrop, dPar, dWhile, ownL, putO, dAppend, dExtend, dPop, dIxO, dLenO, dIx, dIsiE, dSl, dNoP, dP, dNeg, getS, setS, startD, wipeD, back, List.map]
  obtain ⟨hp, h⟩ := h
  cases x0 <;> first | (exact absurd hp Bool.false_ne_true) | exact h
def spIndex : DSp := fun ds n P => ∃ d e, ds = [d, e] ∧ ∃ m, e = .int m ∧ plain d = true ∧ P (.bl (isIdx m d)) n
theorem ok_is_index (T : Tx K mg) : FnK P w K mg base 2 T.f_is_index T.d_is_index ["thing", "size"] k spIndex := by
  refine fnk_of T.F_is_index sc_is_index (fun ds n P h => ?_) fun cv A out s H E W ds n Q hr h => ?_
  · obtain ⟨_, _, rfl, _⟩ := h; rfl
  obtain ⟨x0, x1, rfl, h⟩ := h
  refine ⟨_, (dss_one (ds_ret (de_and (de_callK (ok_is_integer T) (hr.mono (by first | decide | omega)) (by rfl) T.g_is_integer T.F_is_integer.kp (bd_is_integer T) (da_cons (dn 0) da_nil)) (de_one (de_chain do_le do_lt de_int (dn 0) (dn 1)))))), ?_⟩
  dsimp only [dRet, dBack, dJoin, dRetN, dSeq, dNext, dIfS, dAnd, dOr, dNot, dIf, dBool, dNotT, dAndT, dOrT, dBin, dChain, dCall, dCB, dCons, dNil, dTup, dLst, dVar, dC, dAsg, gN, gsNil, gsCons, gT, dSetO, dFor, dIAny, dIR1, dIR2, dIZip, dIEnum, dIRev, dLc, dYes, dDrop, dPar, dWhile, ownL, putO, dAppend, dExtend, dPop, dIxO, dLenO, dIx, dIsiE, dSl, dNoP, dP, dNeg, getS, setS, startD, wipeD, back, List.map]
  obtain ⟨m, rfl, hp, h⟩ := h
  refine ⟨x0, rfl, hp, ?_⟩
  cases x0 with
  | int i => exact onB_and (a := decide (0 ≤ i)) h
  | _ => exact h
theorem one_sign {z : Str} (h : z.length = 1) : ∃ c, z = ⟨#[c]⟩ := by
  obtain ⟨⟨l⟩⟩ := z
  match l, h with
  | [c], _ => exact ⟨c, rfl⟩
theorem chain_az (c : Nat) : (!strLt ⟨#[c]⟩ "a" && !strLt "z" ⟨#[c]⟩) = az c := by
  unfold strLt az
  have e1 : ("a" : Str).cps.toList = [97] := by decide
  have e2 : ("z" : Str).cps.toList = [122] := by decide
  rw [e1, e2]
  have h1 : ([c] < [97]) ↔ c < 97 := by simp [List.cons_lt_cons_iff]
  have h2 : ([122] < [c]) ↔ 122 < c := by simp [List.cons_lt_cons_iff]
  have e3 : (⟨#[c]⟩ : Str).cps.toList = [c] := rfl
  rw [e3, Bool.eq_iff_iff]
  simp only [Bool.and_eq_true, Bool.not_eq_true', decide_eq_false_iff_not, decide_eq_true_eq, h1, h2]
  omega
def spLetter : DSp := fun ds n P => ∃ d, ds = [d] ∧ plain d = true ∧ (∀ z, d = .str z → z.length ≤ 1000000) ∧ P (.bl (isLet d)) n
theorem ok_is_letter (T : Tx K mg) : FnK P w K mg base 1 T.f_is_letter T.d_is_letter ["thing"] k spLetter := by
  refine fnk_of T.F_is_letter sc_is_letter (fun ds n P h => ?_) fun cv A out s H E W ds n Q hr h => ?_
  · obtain ⟨_, rfl, _⟩ := h; rfl
  obtain ⟨x0, rfl, h⟩ := h
  refine ⟨_, (dss_one (ds_ret (de_and (de_isi dc_isStr (by rfl) T.b_isinstance (by decide +kernel) (dn 0) (dty (T := "str") (by rfl) T.b_str (by decide +kernel))) (de_and (de_cmp (DOpB.op (do_eq hr.units)) (de_callB dc_len (by rfl) T.b_len (by decide +kernel) (da_cons (dn 0) da_nil)) de_int) (de_one (de_chain do_le do_le de_str (dn 0) de_str)))))), ?_⟩
  dsimp only [dRet, dBack, dJoin, dRetN, dSeq, dNext, dIfS, dAnd, dOr, dNot, dIf, dBool, dNotT, dAndT, dOrT, dBin, dChain, dCall, dCB, dCons, dNil, dTup, dLst, dVar, dC, dAsg, gN, gsNil, gsCons, gT, dSetO, dFor, dIAny, dIR1, dIR2, dIZip, dIEnum, dIRev, dLc, dYes, dDrop, dPar, dWhile, ownL, putO, dAppend, dExtend, dPop, dIxO, dLenO, dIx, dIsiE, dSl, dNoP, dP, dNeg, getS, setS, startD, wipeD, back, List.map]
  obtain ⟨hp, hz, h⟩ := h
  cases x0 with
  | str z =>
    have lz := line_big
    have := hz z rfl
    refine ⟨by omega, onB_of (fun h1 => ?_) fun h1 => ?_⟩
    · have h1 : z.length = 1 := by have := of_decide_eq_true h1; omega
      obtain ⟨c, rfl⟩ := one_sign h1
      have e : isLet (.str ⟨#[c]⟩) = az c := by
        show (decide (Str.length ⟨#[c]⟩ = 1) && (az c && true)) = _
        rw [decide_eq_true h1, Bool.true_and, Bool.and_true]
      rw [e, ← chain_az] at h
      exact onB_and h
    · have h1 : ¬ z.length = 1 := by have := of_decide_eq_false h1; omega
      have e : isLet (.str z) = false := by
        show (decide (z.length = 1) && _) = false
        rw [decide_eq_false h1, Bool.false_and]
      rw [e] at h
      exact h
  | ins _ _ _ => exact absurd hp Bool.false_ne_true
  | «at» _ => exact absurd hp Bool.false_ne_true
  | _ => exact h
def spTupN : DSp := fun ds n P => ∃ d e, ds = [d, e] ∧ ∃ m, e = .int m ∧ plain d = true ∧ P (.bl (isTupN m d)) n
theorem ok_is_tuple_of (T : Tx K mg) : FnK P w K mg base 1 T.f_is_tuple_of T.d_is_tuple_of ["thing", "length"] k spTupN := by
  refine fnk_of T.F_is_tuple_of sc_is_tuple_of (fun ds n P h => ?_) fun cv A out s H E W ds n Q hr h => ?_
  · obtain ⟨_, _, rfl, _⟩ := h; rfl
  obtain ⟨x0, x1, rfl, h⟩ := h
  refine ⟨_, (dss_one (ds_ret (de_and (de_isi dc_isTup (by rfl) T.b_isinstance (by decide +kernel) (dn 0) (dty (T := "tuple") (by rfl) T.b_tuple (by decide +kernel))) (de_one (de_cmp (DOpB.op (do_eq hr.units)) (de_callB dc_len (by rfl) T.b_len (by decide +kernel) (da_cons (dn 0) da_nil)) (dn 1)))))), ?_⟩
  dsimp only [dRet, dBack, dJoin, dRetN, dSeq, dNext, dIfS, dAnd, dOr, dNot, dIf, dBool, dNotT, dAndT, dOrT, dBin, dChain, dCall, dCB, dCons, dNil, dTup, dLst, dVar, dC, dAsg, gN, gsNil, gsCons, gT, dSetO, dFor, dIAny, dIR1, dIR2, dIZip, dIEnum, dIRev, dLc, dYes, dDrop, dPar, dWhile, ownL, putO, dAppend, dExtend, dPop, dIxO, dLenO, dIx, dIsiE, dSl, dNoP, dP, dNeg, getS, setS, startD, wipeD, back, List.map]
  obtain ⟨m, rfl, hp, h⟩ := h
  cases x0 with
  | tup ds => exact h
  | ins _ _ _ => exact absurd hp Bool.false_ne_true
  | «at» _ => exact absurd hp Bool.false_ne_true
  | _ => exact h
end
end K44
namespace K44
open PySem PySem.Spec PyProof.Rows L2 Sw Dl
section
variable {P : Program} {w : World} {K : PySem.W.Frag} {mg : Str → Option Value} {base : Heap} {k : Dek}
def spAsc {α : Type} [DecidableEq α] [PySem.W.DatumOrd α] (κ : Kn α) : DSp := fun ds n P => ∃ d, ds = [d] ∧ ∃ as : List α, (d = .tup (as.map κ.e) ∨ d = .lst (as.map κ.e)) ∧ as.length ≤ 100000 ∧ P (.bl (ascB as)) n
theorem ok_is_ascending {α : Type} [DecidableEq α] [PySem.W.DatumOrd α] (κ : Kn α)(T : Tx K mg) : FnK P w K mg base 1 T.f_is_ascending T.d_is_ascending ["rows"] k (spAsc κ) := by
  refine fnk_of T.F_is_ascending sc_is_ascending (fun ds n P h => ?_) fun cv A out s H E W ds n Q hr h => ?_
  · obtain ⟨_, rfl, _⟩ := h; rfl
  obtain ⟨x0, rfl, h⟩ := h
  refine ⟨_, (dss_one (ds_ret (de_callB (dc_all rfl) (by rfl) T.b_all (by decide +kernel) (da_cons (DO.de (do_lc (own := [("at", 1)]) rfl sc_is_ascending.nd (di_range2 (by rfl) T.b_range (da_cons de_int (da_cons (de_callB dc_len (by rfl) T.b_len (by decide +kernel) (da_cons (dn 0) da_nil)) da_nil))) (blkOk_by (N := ["rows", "at"]) (sc := defScope (top 8)) (by decide +kernel)) (fun _ _ _ _ _ _ => (dg_name (i := 1) sc_is_ascending.nd rfl (by first | exact .inl rfl | exact .inr rfl))) (fun _ _ _ _ _ _ => dts_nil) (fun _ _ _ _ _ _ => (de_cmp (DOpB.op (do_ltK κ hr.units)) (de_ix (dn 0) (de_op do_op_sub (dn 1) de_int) (fun _ _ => rfl)) (de_ix (dn 0) (dn 1) (fun _ _ => rfl)))))) da_nil)))), ?_⟩
  dsimp only [dRet, dBack, dJoin, dRetN, dSeq, dNext, dIfS, dAnd, dOr, dNot, dIf, dBool, dNotT, dAndT, dOrT, dBin, dChain, dCall, dCB, dCons, dNil, dTup, dLst, dVar, dC, dAsg, gN, gsNil, gsCons, gT, dSetO, dFor, dIAny, dIR1, dIR2, dIZip, dIEnum, dIRev, dLc, dYes, dDrop, dPar, dWhile, ownL, putO, dAppend, dExtend, dPop, dIxO, dLenO, dIx, dIsiE, dSl, dNoP, dP, dNeg, getS, setS, startD, wipeD, back, List.map]
  obtain ⟨as, hd, hlen, h⟩ := h
  have lz := line_big
  refine seqLen_of hd _ ?_
  dsimp only
  refine ⟨⟨by omega, by omega, by omega, by omega⟩, ?_⟩
  have en : ((as.length : Nat) : Int) - 1 = ((as.length - 1 : Nat) : Int) ∨ as.length = 0 := by omega
  refine lcL_map (fun d => match d with
    | .int i => .bl (ltAt as (i.toNat - 1))
    | d => d) _ (fun d hd' A hA => ?_) (by unfold upto; rw [List.length_map, List.length_range]; omega) ?_
  · unfold upto at hd'
    obtain ⟨i, hi, rfl⟩ := List.mem_map.mp hd'
    have hi := List.mem_range.mp hi
    have hi2 : i + 1 < as.length := by omega
    obtain ⟨e1, e2⟩ := seqIx_of hd (i := 1 + (i : Int) - 1) (j := i) (by omega) (List.getElem?_eq_getElem (by omega))
    obtain ⟨e3, e4⟩ := seqIx_of hd (i := 1 + (i : Int)) (j := i + 1) (by omega) (List.getElem?_eq_getElem hi2)
    dsimp only [dRet, dBack, dJoin, dRetN, dSeq, dNext, dIfS, dAnd, dOr, dNot, dIf, dBool, dNotT, dAndT, dOrT, dBin, dChain, dCall, dCB, dCons, dNil, dTup, dLst, dVar, dC, dAsg, gN, gsNil, gsCons, gT, dSetO, dFor, dIAny, dIR1, dIR2, dIZip, dIEnum, dIRev, dLc, dYes, dDrop, dPar, dWhile, ownL, putO, dAppend, dExtend, dPop, dIxO, dLenO, dIx, dIsiE, dSl, dNoP, dP, dNeg, getS, setS, startD, wipeD, back, List.map]
    refine ⟨trivial, e1, ?_⟩
    rw [e2]
    refine ⟨e3, ?_⟩
    rw [e4]
    refine ⟨_, _, rfl, rfl, ?_⟩
    have el : ltAt as ((1 + (i : Int)).toNat - 1) = PySem.W.DatumOrd.lt (as[i]'(by omega)) (as[i + 1]'hi2) := by
      have : (1 + (i : Int)).toNat - 1 = i := by omega
      rw [this]
      unfold ltAt
      rw [List.getElem?_eq_getElem (show i < as.length by omega), List.getElem?_eq_getElem hi2]
    have := hA ⟨[some (.v x0), some (.v (.int (1 + (i : Nat))))], n⟩ rfl
    dsimp only at this
    rw [el] at this
    exact this
  · have e : ((upto 1 (((as.length : Nat) : Int) - 1).toNat).map fun d => match d with
      | .int i => D.bl (ltAt as (i.toNat - 1))
      | d => d) = ((List.range (as.length - 1)).map fun i => ltAt as i).map D.bl := by
      unfold upto
      rw [List.map_map, List.map_map]
      have : (((as.length : Nat) : Int) - 1).toNat = as.length - 1 := by omega
      rw [this]
      refine List.map_congr_left fun i _ => ?_
      show D.bl (ltAt as ((1 + (i : Int)).toNat - 1)) = _
      have : (1 + (i : Int)).toNat - 1 = i := by omega
      rw [this]; rfl
    rw [e]
    refine dBools_map ?_
    rw [List.all_map]
    exact h
def isMove (m : Int) : D → Bool
  | .tup [a, b, c] => isIdx m a && isLet b && isIdx m c
  | _ => false
def spMove : DSp := fun ds n P => ∃ d e, ds = [d, e] ∧ ∃ m, e = .int m ∧ anyD d = true ∧ P (.bl (isMove m d)) n
theorem three {α : Type} {l : List α} (h : (l.length : Int) = 3) : ∃ a b c, l = [a, b, c] := by
  match l, h with
  | [a, b, c], _ => exact ⟨a, b, c, rfl⟩
  | [], h => simp at h
  | [_], h => simp at h
  | [_, _], h => simp at h
  | _ :: _ :: _ :: _ :: _, h => simp at h; omega
theorem ok_is_move (T : Tx K mg) : FnK P w K mg base 3 T.f_is_move T.d_is_move ["thing", "size"] k spMove := by
  refine fnk_of T.F_is_move sc_is_move (fun ds n P h => ?_) fun cv A out s H E W ds n Q hr h => ?_
  · obtain ⟨_, _, rfl, _⟩ := h; rfl
  obtain ⟨x0, x1, rfl, h⟩ := h
  refine ⟨_, (dss_one (ds_ret (de_and (de_callK (ok_is_tuple_of T) (hr.mono (by first | decide | omega)) (by rfl) T.g_is_tuple_of T.F_is_tuple_of.kp (bd_is_tuple_of T) (da_cons (dn 0) (da_cons de_int da_nil))) (de_and (de_callK (ok_is_index T) (hr.mono (by first | decide | omega)) (by rfl) T.g_is_index T.F_is_index.kp (bd_is_index T) (da_cons (de_ix (dn 0) de_int (fun _ _ => rfl)) (da_cons (dn 1) da_nil))) (de_and (de_callK (ok_is_letter T) (hr.mono (by first | decide | omega)) (by rfl) T.g_is_letter T.F_is_letter.kp (bd_is_letter T) (da_cons (de_ix (dn 0) de_int (fun _ _ => rfl)) da_nil)) (de_one (de_callK (ok_is_index T) (hr.mono (by first | decide | omega)) (by rfl) T.g_is_index T.F_is_index.kp (bd_is_index T) (da_cons (de_ix (dn 0) de_int (fun _ _ => rfl)) (da_cons (dn 1) da_nil))))))))), ?_⟩
  dsimp only [dRet, dBack, dJoin, dRetN, dSeq, dNext, dIfS, dAnd, dOr, dNot, dIf, dBool, dNotT, dAndT, dOrT, dBin, dChain, dCall, dCB, dCons, dNil, dTup, dLst, dVar, dC, dAsg, gN, gsNil, gsCons, gT, dSetO, dFor, dIAny, dIR1, dIR2, dIZip, dIEnum, dIRev, dLc, dYes, dDrop, dPar, dWhile, ownL, putO, dAppend, dExtend, dPop, dIxO, dLenO, dIx, dIsiE, dSl, dNoP, dP, dNeg, getS, setS, startD, wipeD, back, List.map]
  obtain ⟨m, rfl, ha, h⟩ := h
  refine ⟨_, _, rfl, 3, rfl, any_plain ha, ?_⟩
  cases x0 with
  | tup ds =>
    refine onB_of (fun h1 => ?_) fun h1 => ?_
    · obtain ⟨a, b, c, rfl⟩ := three (of_decide_eq_true h1)
      have hall := (any_tup ha).2
      have ga := hall a (by simp)
      have gb := hall b (by simp)
      have gc := hall c (by simp)
      refine ⟨(fun z e => by cases e), a, .int m, rfl, m, rfl, any_plain ga, ?_⟩
      have e : isMove m (.tup [a, b, c]) = (isIdx m a && (isLet b && isIdx m c)) := by
        show (isIdx m a && isLet b && isIdx m c) = _
        rw [Bool.and_assoc]
      rw [e] at h
      refine onB_of (fun h2 => ?_) fun h2 => ?_
      · rw [h2, Bool.true_and] at h
        refine ⟨(fun z e => by cases e), b, rfl, any_plain gb, (fun z e => any_str (by rw [← e]; exact gb)), ?_⟩
        refine onB_of (fun h3 => ?_) fun h3 => ?_
        · rw [h3, Bool.true_and] at h
          exact ⟨(fun z e => by cases e), c, .int m, rfl, m, rfl, any_plain gc, h⟩
        · rw [h3, Bool.false_and] at h
          exact h
      · rw [h2, Bool.false_and] at h
        exact h
    · have e : isMove m (.tup ds) = false := by
        have := of_decide_eq_false h1
        match ds, this with
        | [_, _, _], h => exact absurd rfl h
        | [], _ => rfl
        | [_], _ => rfl
        | [_, _], _ => rfl
        | _ :: _ :: _ :: _ :: _, _ => rfl
      rw [e] at h
      exact h
  | _ => exact h
end
end K44
namespace K44
open PySem PySem.Spec PyProof.Rows L2 Sw Dl
section
variable {P : Program} {w : World} {K : PySem.W.Frag} {mg : Str → Option Value} {base : Heap} {k : Dek}
def t3Of : D → PySem.W.T3 Int Str Int
  | .tup [.int i, .str z, .int j] => ⟨i, z, j⟩
  | _ => ⟨0, "", 0⟩
def t2Of (d : D) : Int × Str := ((t3Of d).1, (t3Of d).2)
theorem move_t3 {m : Int} {d : D} (h : isMove m d = true) : ∃ i z j, d = .tup [.int i, .str z, .int j] ∧ 0 ≤ i ∧ i < m ∧ (∃ c, z = ⟨#[c]⟩ ∧ az c = true) ∧ 0 ≤ j ∧ j < m := by
  match d, h with
  | .tup [a, b, c], h =>
    obtain ⟨h12, h3⟩ := Bool.and_eq_true_iff.mp (show (isIdx m a && isLet b && isIdx m c) = true from h)
    obtain ⟨h1, h2⟩ := Bool.and_eq_true_iff.mp h12
    match a, b, c, h1, h2, h3 with
    | .int i, .str z, .int j, h1, h2, h3 =>
      obtain ⟨g1, g2⟩ := Bool.and_eq_true_iff.mp (show (decide (0 ≤ i) && decide (i < m)) = true from h1)
      obtain ⟨g3, g4⟩ := Bool.and_eq_true_iff.mp (show (decide (z.length = 1) && z.cps.toList.all az) = true from h2)
      obtain ⟨g5, g6⟩ := Bool.and_eq_true_iff.mp (show (decide (0 ≤ j) && decide (j < m)) = true from h3)
      obtain ⟨c, rfl⟩ := one_sign (of_decide_eq_true g3)
      exact ⟨i, _, j, rfl, of_decide_eq_true g1, of_decide_eq_true g2, ⟨c, rfl, List.all_eq_true.mp g4 c (by simp)⟩, of_decide_eq_true g5, of_decide_eq_true g6⟩
theorem moves_t3 {m : Int} : ∀ {ds : List D}, ds.all (isMove m) = true → ds = (ds.map t3Of).map knISI.e
  | [], _ => rfl
  | d :: ds, h => by
    obtain ⟨h1, h2⟩ := Bool.and_eq_true_iff.mp (show (isMove m d && ds.all (isMove m)) = true from h)
    obtain ⟨i, z, j, rfl, _⟩ := move_t3 h1
    rw [List.map_cons, List.map_cons, ← moves_t3 h2]; rfl
def isMoves (m : Int) : D → Bool
  | .tup ds => ds.all (isMove m) && (ascB (ds.map t3Of) && ascB (ds.map t2Of))
  | _ => false
def spMoves : DSp := fun ds n P => ∃ d e, ds = [d, e] ∧ ∃ m, e = .int m ∧ anyD d = true ∧ P (.bl (isMoves m d)) n
theorem ok_is_moves (T : Tx K mg) : FnK P w K mg base 4 T.f_is_moves T.d_is_moves ["thing", "states"] k spMoves := by
  refine fnk_of T.F_is_moves sc_is_moves (fun ds n P h => ?_) fun cv A out s H E W ds n Q hr h => ?_
  · obtain ⟨_, _, rfl, _⟩ := h; rfl
  obtain ⟨x0, x1, rfl, h⟩ := h
  refine ⟨_, (dss_cons (ds_if (dt_w (dw_or (dt_not (dt_val (de_isi dc_isTup (by rfl) T.b_isinstance (by decide +kernel) (dn 0) (dty (T := "tuple") (by rfl) T.b_tuple (by decide +kernel))))) (dw_or1 (dt_not (dt_val (de_callB (dc_all rfl) (by rfl) T.b_all (by decide +kernel) (da_cons (DO.de (do_lc (own := [("move", 2)]) rfl sc_is_moves.nd (di_any (dn 0)) (blkOk_by (N := ["thing", "states", "move"]) (sc := defScope (top 12)) (by decide +kernel)) (fun _ _ _ _ _ _ => (dg_name (i := 2) sc_is_moves.nd rfl (by first | exact .inl rfl | exact .inr rfl))) (fun _ _ _ _ _ _ => dts_nil) (fun _ _ _ _ _ _ => (de_callK (ok_is_move T) (hr.mono (by first | decide | omega)) (by rfl) T.g_is_move T.F_is_move.kp (bd_is_move T) (da_cons (dn 2) (da_cons (dn 1) da_nil)))))) da_nil))))))) (dss_one (ds_ret de_bl)) dss_nil)
      (dss_one (ds_ret (de_and (de_callK (ok_is_ascending knISI T) (hr.mono (by first | decide | omega)) (by rfl) T.g_is_ascending T.F_is_ascending.kp (bd_is_ascending T) (da_cons (dn 0) da_nil)) (de_one (de_callK (ok_is_ascending knIS T) (hr.mono (by first | decide | omega)) (by rfl) T.g_is_ascending T.F_is_ascending.kp (bd_is_ascending T) (da_cons (DO.de (do_lc (own := [("move", 2)]) rfl sc_is_moves.nd (di_any (dn 0)) (blkOk_by (N := ["thing", "states", "move"]) (sc := defScope (top 12)) (by decide +kernel)) (fun _ _ _ _ _ _ => (dg_name (i := 2) sc_is_moves.nd rfl (by first | exact .inl rfl | exact .inr rfl))) (fun _ _ _ _ _ _ => dts_nil) (fun _ _ _ _ _ _ => (de_sl (dn 2) dp_none (dp_some de_int))))) da_nil))))))), ?_⟩
  dsimp only [dRet, dBack, dJoin, dRetN, dSeq, dNext, dIfS, dAnd, dOr, dNot, dIf, dBool, dNotT, dAndT, dOrT, dBin, dChain, dCall, dCB, dCons, dNil, dTup, dLst, dVar, dC, dAsg, gN, gsNil, gsCons, gT, dSetO, dFor, dIAny, dIR1, dIR2, dIZip, dIEnum, dIRev, dLc, dYes, dDrop, dPar, dWhile, ownL, putO, dAppend, dExtend, dPop, dIxO, dLenO, dIx, dIsiE, dSl, dNoP, dP, dNeg, getS, setS, startD, wipeD, back, List.map]
  obtain ⟨m, rfl, ha, h⟩ := h
  have lz := line_big
  cases x0 with
  | tup ds =>
    obtain ⟨hl, hall⟩ := any_tup ha
    show lcL _ _ _ _ _ _ _ _
    refine lcL_map (fun d => .bl (isMove m d)) _ (fun d hd A hA => ?_) (by omega) ?_
    · dsimp only [dRet, dBack, dJoin, dRetN, dSeq, dNext, dIfS, dAnd, dOr, dNot, dIf, dBool, dNotT, dAndT, dOrT, dBin, dChain, dCall, dCB, dCons, dNil, dTup, dLst, dVar, dC, dAsg, gN, gsNil, gsCons, gT, dSetO, dFor, dIAny, dIR1, dIR2, dIZip, dIEnum, dIRev, dLc, dYes, dDrop, dPar, dWhile, ownL, putO, dAppend, dExtend, dPop, dIxO, dLenO, dIx, dIsiE, dSl, dNoP, dP, dNeg, getS, setS, startD, wipeD, back, List.map]
      exact ⟨_, _, rfl, m, rfl, hall d hd, hA _ rfl⟩
    · rw [show (ds.map fun d => D.bl (isMove m d)) = (ds.map (isMove m)).map D.bl by rw [List.map_map]; rfl]
      refine dBools_map ?_
      dsimp only
      rw [List.all_map]
      have e0 : isMoves m (.tup ds) = (ds.all (isMove m) && (ascB (ds.map t3Of) && ascB (ds.map t2Of))) := rfl
      rw [e0] at h
      cases e : ds.all (isMove m) with
      | false =>
        have e : ds.all (id ∘ isMove m) = false := e
        rw [e]
        refine onT_t rfl ?_
        rw [show ds.all (isMove m) = false from e, Bool.false_and] at h
        exact h
      | true =>
        have e' : ds.all (id ∘ isMove m) = true := e
        rw [e']
        refine onT_f rfl ?_
        rw [e, Bool.true_and] at h
        have et := moves_t3 e
        refine ⟨_, rfl, ds.map t3Of, .inl (by rw [← et]), by rw [List.length_map]; exact hl, ?_⟩
        refine onB_of (fun h1 => ?_) fun h1 => ?_
        · rw [h1, Bool.true_and] at h
          show lcL _ _ _ _ _ _ _ _
          refine lcL_map (fun d => knIS.e (t2Of d)) _ (fun d hd A hA => ?_) (by omega) ?_
          · dsimp only [dRet, dBack, dJoin, dRetN, dSeq, dNext, dIfS, dAnd, dOr, dNot, dIf, dBool, dNotT, dAndT, dOrT, dBin, dChain, dCall, dCB, dCons, dNil, dTup, dLst, dVar, dC, dAsg, gN, gsNil, gsCons, gT, dSetO, dFor, dIAny, dIR1, dIR2, dIZip, dIEnum, dIRev, dLc, dYes, dDrop, dPar, dWhile, ownL, putO, dAppend, dExtend, dPop, dIxO, dLenO, dIx, dIsiE, dSl, dNoP, dP, dNeg, getS, setS, startD, wipeD, back, List.map]
            obtain ⟨i, z, j, rfl, _⟩ := move_t3 (List.all_eq_true.mp e d hd)
            exact hA _ rfl
          · refine ⟨_, rfl, ds.map t2Of, .inr (by rw [List.map_map]; rfl), by rw [List.length_map]; exact hl, h⟩
        · rw [h1, Bool.false_and] at h
          exact h
  | ins _ _ _ => exact absurd ha Bool.false_ne_true
  | «at» _ => exact absurd ha Bool.false_ne_true
  | _ => exact h
end
end K44
namespace K44
open PySem PySem.Spec PyProof.Rows L2 Sw Dl
section
variable {P : Program} {w : World} {K : PySem.W.Frag} {mg : Str → Option Value} {base : Heap}
theorem hu_of {k : Nat} {A : Around} (r : Room k A) : A.units + 1 < cLine := by have := r.units; omega
/-! ### the deck -/
def dk (l : Addr) (br dr : Int) : List (Key × V) := [(.inr "cells", .ref l), (.inr "stirred", .int br), (.inr "draws", .int dr)]
theorem k12 : ¬ (Sum.inr ("cells" : Str) : Key) = Sum.inr ("stirred" : Str) := by decide +kernel
theorem k13 : ¬ (Sum.inr ("cells" : Str) : Key) = Sum.inr ("draws" : Str) := by decide +kernel
theorem k23 : ¬ (Sum.inr ("stirred" : Str) : Key) = Sum.inr ("draws" : Str) := by decide +kernel
theorem dk_cells (l : Addr) (br dr : Int) : valV (dk l br dr) (.inr "cells") = some (.ref l) := valV_pos rfl
theorem dk_brew (l : Addr) (br dr : Int) : valV (dk l br dr) (.inr "stirred") = some (.int br) := by
  unfold dk; rw [valV_neg k12, valV_pos rfl]
theorem dk_draws (l : Addr) (br dr : Int) : valV (dk l br dr) (.inr "draws") = some (.int dr) := by
  unfold dk; rw [valV_neg k13, valV_neg k23, valV_pos rfl]
theorem dk_put (l : Addr) (br dr e : Int) : putK (dk l br dr) (.inr "draws") (.int e) = dk l br e := by
  have a1 : ¬ ("cells" : Str) = "draws" := by decide +kernel
  have a2 : ¬ ("stirred" : Str) = "draws" := by decide +kernel
  unfold dk putK
  simp [a1, a2]
structure DeckAt (H : Hp) (d l : Addr) (ns : List Int) (br dr : Int) : Prop where
  at_ : H d = some (.dK (dk l br dr))
  cells : H l = some (.lst (ns.map V.int))
  few : ns.length ≤ 63
  lo : 0 ≤ dr
theorem DeckAt.ne {H : Hp} {d l : Addr} {ns : List Int} {br dr : Int} (D : DeckAt H d l ns br dr) : l ≠ d := ne_of D.cells D.at_ (by intro z; cases z)
theorem DeckAt.gC {H : Hp} {d l : Addr} {ns : List Int} {br dr : Int} (D : DeckAt H d l ns br dr) : DGet H d (.str "cells") (some (.ref l)) := by
  have z := DGet.k (k := .inr ("cells" : Str)) D.at_
  rw [dk_cells] at z
  exact z
theorem DeckAt.gB {H : Hp} {d l : Addr} {ns : List Int} {br dr : Int} (D : DeckAt H d l ns br dr) : DGet H d (.str "stirred") (some (.int br)) := by
  have z := DGet.k (k := .inr ("stirred" : Str)) D.at_
  rw [dk_brew] at z
  exact z
theorem DeckAt.gD {H : Hp} {d l : Addr} {ns : List Int} {br dr : Int} (D : DeckAt H d l ns br dr) : DGet H d (.str "draws") (some (.int dr)) := by
  have z := DGet.k (k := .inr ("draws" : Str)) D.at_
  rw [dk_draws] at z
  exact z
theorem DeckAt.put {H : Hp} {d l : Addr} {ns : List Int} {br dr : Int} (D : DeckAt H d l ns br dr) (e : Int) : DPut H d (.str "draws") (.int e) (upd H d (.dK (dk l br e))) := by
  have z := DPut.k (k := .inr ("draws" : Str)) (v := .int e) D.at_ (by show 3 < sizeLine; decide)
  rw [dk_put] at z
  exact z
theorem DeckAt.drawn {H : Hp} {d l : Addr} {ns : List Int} {br dr : Int} (D : DeckAt H d l ns br dr) {e : Int} (he : 0 ≤ e) : DeckAt (upd H d (.dK (dk l br e))) d l ns br e :=
  ⟨upd_same, by rw [upd_ne D.ne]; exact D.cells, D.few, he⟩
theorem DeckAt.beside {H : Hp} {d l p : Addr} {ns : List Int} {br dr : Int} {o : HO} (D : DeckAt H d l ns br dr) (hp : H p = none) : DeckAt (upd H p o) d l ns br dr :=
  ⟨by rw [upd_ne (ne_of_none D.at_ hp)]; exact D.at_, by rw [upd_ne (ne_of_none D.cells hp)]; exact D.cells, D.few, D.lo⟩
theorem DeckAt.cellsTo {H : Hp} {d l : Addr} {ns ms : List Int} {br dr : Int} (D : DeckAt H d l ns br dr) (h : ms.length ≤ 63) : DeckAt (upd H l (.lst (ms.map V.int))) d l ms br dr :=
  ⟨by rw [upd_ne D.ne.symm]; exact D.at_, upd_same, h, D.lo⟩
def spDraw : Sp := fun vs H Q _ => ∃ (d l : Addr) (ns : List Int) (br dr m : Int), vs = [.ref d, .int m] ∧ DeckAt H d l ns br dr ∧ dr < 1000000 ∧ 1 ≤ m ∧ m ≤ 1000000 ∧
  ∀ (j : Int) (ns' : List Int) (H' : Hp), 0 ≤ j → j < m → DeckAt H' d l ns' br (dr + 1) → (∀ b o, b ≠ d → b ≠ l → H b = some o → H' b = some o) → Q (.int j) H'
theorem ok_ints : ∀ ns : List Int, PyData.canLayAll0 (ns.map PyData.int) = true
  | [] => by simp only [List.map_nil, PyData.canLayAll0]
  | n :: ns => by simp only [List.map_cons, PyData.canLayAll0, PyData.canLay0, ok_ints ns, Bool.and_self]
theorem depth_ints : ∀ xs : List Int, PyData.depthAll (xs.map PyData.int) = 0
  | [] => by simp only [List.map_nil, PyData.depthAll]
  | x :: xs => by simp only [List.map_cons, PyData.depthAll, PyData.depth, depth_ints xs, Nat.max_self]
theorem shaped_ints (ns : List Int) : SeqAt.shaped (.list (ns.map PyData.int)) = true := by
  unfold SeqAt.shaped
  simp only [PyData.canLay0, ok_ints, Bool.true_and, PyData.depth, depth_ints]
  decide
theorem raw_draw {f : Addr} {fd : FuncData} (F : FunD K "_law_draw" "_law_draw" (defArgs (top 16)) (defBody (top 16)) (defScope (top 16)) [] [] f fd) (gI : mg "int" = none) : FnOk P w K mg base CX0 1 f fd ["_law_deck_here", "_law_below"] spDraw := by
  refine F.ok sc__law_draw (fun vs H Q E h => ?_) (fun cdv A outer s H vs Q E hr h => ?_)
  · obtain ⟨d, l, ns, br, dr, m, rfl, _⟩ := h; rfl
  · obtain ⟨d, l, ns, br, dr, m, rfl, D, hdr, hm1, hm2, k⟩ := h
    have hu := hu_of hr
    refine ⟨_, PSs.nox (pss_cons (ps_dput hu (pv 0) pe_str (pe_op op_add (pe_dget hu (pv 0) pe_str (fun _ _ => rfl)) pe_int) rfl)
      (pss_cons (ps_par (i := 2) (j := 3) rfl sc__law_draw.nd rfl rfl (by decide) rfl rfl (pa_cons (pe_dget hu (pv 0) pe_str (fun _ _ => rfl)) (pa_cons (pe_dget hu (pv 0) pe_str (fun _ _ => rfl)) pa_nil)) rfl)
      (pss_cons (ps_if (pt_cmpR (op_neD hr.units) (pe_dget hu (pv 0) pe_str (fun _ _ => rfl)) (pe_lst pa_nil) (nomark _))
        (pss_cons (ps_set (i := 4) sc__law_draw.nd rfl (Or.inl rfl) (pe_bm0 PySem.F.plainAttrs_list PySem.F.slot_list_pop PySem.F.type_list_pop mt_pop (pe_dget hu (pv 0) pe_str (fun _ _ => rfl))))
        (pss_cons (ps_if (pt_cmpR op_ge (pv 4) (pe_op op_pow pe_int pe_int) (nomark _))
          (pss_cons (ps_expr (pe_bm PySem.F.plainAttrs_list PySem.F.slot_list_append PySem.F.type_list_append mt_append (pe_dget hu (pv 0) pe_str (fun _ _ => rfl)) (pa_cons (pe_op op_fdivW (pv 4) (pv 1)) pa_nil)))
          (pss_one (ps_ret (pe_op op_mod (pe_callTy call_int1 (by rfl) gI boot_int (pa_cons (pv 4) pa_nil)) (pv 1)))))
          pss_nil)
        (pss_one (ps_set (i := 3) sc__law_draw.nd rfl (Or.inl rfl) (pe_op op_add (pv 3) (pe_op op_mod (pe_callTy call_int1 (by rfl) gI boot_int (pa_cons (pv 4) pa_nil)) pe_int))))))
        pss_nil)
      (pss_cons (ps_set (i := 3) sc__law_draw.nd rfl (Or.inl rfl) (pe_op op_mod (pe_op op_mul (pe_callTy call_int1 (by rfl) gI boot_int (pa_cons (pe_op op_add (pe_op op_add (pe_op op_mod (pe_callTy call_int1 (by rfl) gI boot_int (pa_cons (pv 3) pa_nil)) pe_int) (pe_op op_mul (pe_op op_mul pe_int (pv 2)) (pv 2))) pe_int) pa_nil)) pe_int) pe_int))
      (pss_cons (ps_set (i := 3) sc__law_draw.nd rfl (Or.inl rfl) (pe_op op_mod (pe_callTy call_int1 (by rfl) gI boot_int (pa_cons (pe_op op_add (pe_op op_add (pe_op op_mul (pv 3) (pv 3)) (pe_op op_mul pe_int (pv 2))) pe_int) pa_nil)) pe_int))
      (pss_one (ps_ret (pe_op op_mod (pe_op op_fdiv (pe_op op_mod (pe_callTy call_int1 (by rfl) gI boot_int (pa_cons (pe_op op_mul (pv 3) pe_int) pa_nil)) pe_int) pe_int) (pv 1))))))))), ?_⟩
    have Dn := D.ne
    have hd0 := D.lo
    have D1 := D.drawn (e := dr + 1) (by omega)
    refine ⟨_, rfl, d, .int dr, rfl, D.gD, _, _, rfl, rfl, _, rfl, d, _, rfl, D.put (dr + 1), ?_⟩
    refine ⟨_, rfl, d, _, rfl, D1.gD, _, rfl, d, _, rfl, D1.gB, _, _, rfl, ?_⟩
    refine ⟨_, rfl, d, _, rfl, D1.gC, by show 0 ≤ sizeLine; omega, fun p hp => ?_⟩
    have D2 := D1.beside (o := .lst []) hp
    have keep1 : ∀ b o, b ≠ d → b ≠ l → H b = some o → upd (upd H d (.dK (dk l br (dr + 1)))) p (.lst []) b = some o := fun b o h1 _ h3 => by
      have z : upd H d (.dK (dk l br (dr + 1))) b = some o := by rw [upd_ne h1]; exact h3
      rw [upd_ne (ne_of_none z hp)]; exact z
    have fin : ∀ (G : Hp) (ns' : List Int) (x : Int), DeckAt G d l ns' br (dr + 1) → (∀ b o, b ≠ d → b ≠ l → H b = some o → G b = some o) → Q (.int (x % m)) G :=
      fun G ns' x DG kp => k _ _ _ (Int.emod_nonneg _ (by omega)) (Int.emod_lt_of_pos _ (by omega)) DG kp
    have b1 : ∀ x : Int, -(2 ^ 64) < x % 2147483647 ∧ x % 2147483647 < 2 ^ 64 := fun x => by omega
    refine ⟨.list (ns.map PyData.int), .list [], .lst (SqL.of D2.cells) (dp_ints _), .lst (SqL.of upd_same) .nil, shaped_ints ns, by decide, _, rfl, ?_⟩
    rw [eqv_nil]
    cases hns : ns with
    | nil =>
      refine iteF ?_
      refine ⟨_, rfl, .inl ⟨_, rfl, _, _, rfl, rfl, (by show (0 : Int) < 2147483629; decide), _, rfl, _, _, rfl, rfl, .inl ⟨by decide, by decide⟩, _, rfl, _, _, rfl, rfl, .inr ⟨by omega, by omega⟩, _, _, rfl, rfl, _, _, rfl, rfl, .inl ⟨_, rfl, _, _, rfl, rfl, .inr ⟨by decide, by decide⟩, _, _, rfl, rfl, (by show (0 : Int) < 2147483647; decide), ?_⟩⟩⟩
      refine ⟨_, rfl, _, rfl, _, _, rfl, rfl, .inl (b1 _), _, rfl, _, _, rfl, rfl, .inl ⟨by decide, by decide⟩, _, _, rfl, rfl, _, _, rfl, rfl, .inl ⟨_, rfl, _, _, rfl, rfl, (by show (0 : Int) < 2147483579; decide), ?_⟩⟩
      refine ⟨_, rfl, _, _, rfl, rfl, .inr ⟨by decide, by decide⟩, .inl ⟨_, rfl, _, _, rfl, rfl, (by show (0 : Int) < 2147483549; decide), _, _, rfl, rfl, ⟨by decide, by decide⟩, _, rfl, _, _, rfl, rfl, (by show 0 < m; omega), ?_⟩⟩
      exact fin _ _ _ (hns ▸ D2) keep1
    | cons n0 ns0 =>
      refine iteT ?_
      have hne : ns ≠ [] := by rw [hns]; simp
      obtain ⟨cl, hcl⟩ : ∃ cl, ns[ns.length - 1]? = some cl := ⟨ns[ns.length - 1]'(by rw [hns]; simp), List.getElem?_eq_getElem _⟩
      have few := D.few
      have hdl : (ns.map V.int).dropLast = ns.dropLast.map V.int := (List.map_dropLast ..).symm
      have D3 := D2.cellsTo (ms := ns.dropLast) (by rw [List.length_dropLast]; omega)
      have keep2 : ∀ (o' : HO), ∀ b o, b ≠ d → b ≠ l → H b = some o → upd (upd (upd H d (.dK (dk l br (dr + 1)))) p (.lst [])) l o' b = some o := fun o' b o h1 h2 h3 => by
        rw [upd_ne h2]; exact keep1 b o h1 h2 h3
      refine ⟨_, rfl, d, _, rfl, D2.gC, .inl ⟨rfl, _, SqL.of D2.cells⟩, l, _, .int cl, rfl, rfl, D2.cells, by rw [List.length_map, List.getElem?_map, hcl]; rfl, ?_⟩
      rw [hdl]
      refine ⟨_, rfl, _, _, rfl, rfl, ⟨by decide, by decide, by decide⟩, _, _, rfl, rfl, _, rfl, ?_⟩
      refine ite2 (fun hbig => ?_) (fun hbig => ?_)
      · refine ⟨_, rfl, d, _, rfl, D3.gC, .inl ⟨rfl, _, SqL.of D3.cells⟩, _, rfl, _, rfl, _, _, rfl, rfl, wide_div (by omega) (b := 20) (by omega) (by decide) (by decide), l, _, _, rfl, rfl, D3.cells, ?_, ?_⟩
        · rw [List.length_map, List.length_dropLast]
          have := line_big
          omega
        · have e1 : (ns.dropLast.map V.int) ++ [V.int (cl / m)] = (ns.dropLast ++ [cl / m]).map V.int := by rw [List.map_append]; rfl
          rw [e1, upd_upd]
          have D4 := D2.cellsTo (ms := ns.dropLast ++ [cl / m]) (by rw [List.length_append, List.length_dropLast]; simp only [List.length_cons, List.length_nil]; omega)
          refine ⟨_, rfl, .inl ⟨_, rfl, _, rfl, _, _, rfl, rfl, (by show 0 < m; omega), ?_⟩⟩
          exact fin _ _ _ D4 (keep2 _)
      · refine ⟨_, rfl, _, rfl, .inl ⟨_, rfl, _, _, rfl, rfl, (by show (0 : Int) < 2147483563; decide), _, _, rfl, rfl, ?_⟩⟩
        refine ⟨_, rfl, .inl ⟨_, rfl, _, _, rfl, rfl, (by show (0 : Int) < 2147483629; decide), _, rfl, _, _, rfl, rfl, .inl ⟨by decide, by decide⟩, _, rfl, _, _, rfl, rfl, .inr ⟨by omega, by omega⟩, _, _, rfl, rfl, _, _, rfl, rfl, .inl ⟨_, rfl, _, _, rfl, rfl, .inr ⟨by decide, by decide⟩, _, _, rfl, rfl, (by show (0 : Int) < 2147483647; decide), ?_⟩⟩⟩
        refine ⟨_, rfl, _, rfl, _, _, rfl, rfl, .inl (b1 _), _, rfl, _, _, rfl, rfl, .inl ⟨by decide, by decide⟩, _, _, rfl, rfl, _, _, rfl, rfl, .inl ⟨_, rfl, _, _, rfl, rfl, (by show (0 : Int) < 2147483579; decide), ?_⟩⟩
        refine ⟨_, rfl, _, _, rfl, rfl, .inr ⟨by decide, by decide⟩, .inl ⟨_, rfl, _, _, rfl, rfl, (by show (0 : Int) < 2147483549; decide), _, _, rfl, rfl, ⟨by decide, by decide⟩, _, rfl, _, _, rfl, rfl, (by show 0 < m; omega), ?_⟩⟩
        exact fin _ _ _ D3 (keep2 _)
/-! ### _law_deck -/
theorem dk_merge (l : Addr) (b e : Int) : mergeK [] (dk l b e) = dk l b e := by
  have a1 : ¬ ("cells" : Str) = "draws" := by decide +kernel
  have a2 : ¬ ("stirred" : Str) = "draws" := by decide +kernel
  have a3 : ¬ ("cells" : Str) = "stirred" := by decide +kernel
  unfold mergeK dk putK
  simp [a1, a2, a3, putK]
theorem cut_63 {xs : List V} (h : xs.length ≤ 63) : cutV xs none (some 63) = xs := by
  unfold cutV
  have e : HT.sIx xs.length xs.length (some 63) = xs.length := by
    have := HT.sIx_nat xs.length xs.length 63
    rw [show ((63 : Nat) : Int) = 63 from rfl] at this
    rw [this]; omega
  rw [e, HT.sIx_none, List.drop_zero, Nat.sub_zero, List.take_of_length_le (Nat.le_refl _)]
def spDeck (K : PySem.W.Frag) : Sp := fun vs H Q _ => ∃ (a : Addr) (ns : List Int), vs = [.ref a] ∧ SqL K H a (ns.map V.int) ∧ ns.length ≤ 63 ∧ ∀ (d l : Addr) (ms : List Int) (br : Int) (H' : Hp), DeckAt H' d l ms br 0 → Same H H' → Q (.ref d) H'
theorem raw_deck {f : Addr} {fd : FuncData} (F : FunD K "_law_deck" "_law_deck" (defArgs (top 15)) (defBody (top 15)) (defScope (top 15)) [] [] f fd) (gI : mg "int" = none) (gL : mg "list" = none) : FnOk P w K mg base CX0 1 f fd ["_law_script"] (spDeck K) := by
  refine F.ok sc__law_deck (fun vs H Q E h => ?_) (fun cdv A outer s H vs Q E hr h => ?_)
  · obtain ⟨a, ns, rfl, _⟩ := h; rfl
  · obtain ⟨a, ns, rfl, hS, hn, k⟩ := h
    have hu := hu_of hr
    refine ⟨_, PSs.nox (pss_cons (ps_par (i := 1) (j := 2) rfl sc__law_deck.nd rfl rfl (by decide) rfl rfl (pa_cons (pe_callTy call_list_of (by rfl) gL boot_list (pa_cons (pe_slice sl_list (pv 0) po_none (po_some pe_int)) pa_nil)) (pa_cons pe_int pa_nil)) rfl)
      (pss_cons (ps_for PassesOwn.never rfl (pi_list (pv 1)) (pg_name (i := 3) sc__law_deck.nd rfl (Or.inl rfl))
        (pss_one (ps_set (i := 2) sc__law_deck.nd rfl (Or.inl rfl) (pe_op op_mod (pe_callTy call_int1 (by rfl) gI boot_int (pa_cons (pe_op op_add (pe_op op_add (pe_op op_mul (pv 2) pe_int) (pe_op op_mod (pe_callTy call_int1 (by rfl) gI boot_int (pa_cons (pv 3) pa_nil)) pe_int)) pe_int) pa_nil)) pe_int))))
      (pss_one (ps_ret (pe_disp (pps_cons pe_str (pe_revL (pv 1)) (pps_cons pe_str (pv 2) (pps_cons pe_str pe_int pps_nil))) rfl rfl (by simp) (by decide)))))), ?_⟩
    refine ⟨_, rfl, _, rfl, a, _, rfl, hS, fun p hp => ?_⟩
    rw [cut_63 (by rw [List.length_map]; exact hn)]
    refine ⟨p, _, rfl, .inl (SqL.of upd_same), fun q hq => ⟨_, _, rfl, ?_⟩⟩
    have s2 : Same H (upd (upd H p (.lst (ns.map V.int))) q (.lst (ns.map V.int))) := fun b o hb => by
      have z : upd H p (.lst (ns.map V.int)) b = some o := by rw [upd_ne (ne_of_none hb hp)]; exact hb
      rw [upd_ne (ne_of_none z hq)]; exact z
    refine ⟨_, rfl, q, rfl, ⟨_, SqL.of upd_same⟩, for_list (K := K) (a := q) (xs := ns.map V.int) (fun i σ G => ∃ (v : Option V) (b : Int), σ = [some (.ref a), some (.ref q), some (.int b), v] ∧ G = upd (upd H p (.lst (ns.map V.int))) q (.lst (ns.map V.int)))
      ⟨none, 1086244, rfl, rfl⟩ (fun i σ G _ ⟨_, _, _, e⟩ => by rw [e]; exact SqL.of upd_same) ?_ ?_⟩
    · rintro i y σ G hi ⟨v, b, rfl, rfl⟩
      obtain ⟨z, rfl⟩ : ∃ z, y = V.int z := by
        rw [List.getElem?_map] at hi
        cases e : ns[i]? with
        | none => rw [e] at hi; cases hi
        | some z => rw [e] at hi; exact ⟨z, (Option.some.inj hi).symm⟩
      exact ⟨_, rfl, _, _, rfl, rfl, .inr ⟨by decide, by decide⟩, _, rfl, .inl ⟨_, rfl, _, _, rfl, rfl, (by show (0 : Int) < 2147483629; decide), _, _, rfl, rfl, _, _, rfl, rfl, .inl ⟨_, rfl, _, _, rfl, rfl, (by show (0 : Int) < 2147483587; decide), _, _, rfl, rfl⟩⟩⟩
    · rintro σ G ⟨v, b, rfl, rfl⟩
      refine fun d hd => ⟨_, rfl, q, _, rfl, SqL.of (by rw [upd_ne (ne_of_none upd_same hd)]; exact upd_same), fun l hl => ⟨_, rfl, ?_⟩⟩
      have hdl : d ≠ l := ne_of_none upd_same hl
      refine ⟨by rw [upd_ne hdl]; exact upd_same, dk l b 0, rfl, by show 3 ≤ 15; omega, ?_⟩
      rw [dk_merge]
      refine k d l ns.reverse b _ ⟨upd_same, by rw [upd_ne hdl.symm, upd_same, List.map_reverse], by rw [List.length_reverse]; exact hn, Int.le_refl _⟩ fun c o hc => ?_
      have z1 := s2 c o hc
      have n1 : c ≠ d := ne_of_none z1 hd
      have z2 : upd (upd (upd H p (.lst (ns.map V.int))) q (.lst (ns.map V.int))) d (.dK []) c = some o := by rw [upd_ne n1]; exact z1
      rw [upd_ne n1, upd_ne (ne_of_none z2 hl)]
      exact z2
end
end K44
namespace K44
open PySem PySem.Spec PyProof.Rows L2 Sw Dl
section
variable {P : Program} {w : World} {K : PySem.W.Frag} {mg : Str → Option Value} {base : Heap} {k : Dek} {dd ll : Addr}
def deckD (d l : Addr) : Dek where
  dk := [d, l]
  deck H n := ∃ ns br, DeckAt H d l ns br n
  st := fun H H' n ⟨ns, br, D⟩ h => ⟨ns, br, by rw [h d (by simp)]; exact D.at_, by rw [h l (by simp)]; exact D.cells, D.few, D.lo⟩
  tr := fun H n ⟨ns, br, D⟩ a ha => by
    rcases List.mem_cons.mp ha with rfl | ha
    · rw [D.at_]; exact fun z => by cases z
    · rw [List.mem_singleton.mp ha, D.cells]; exact fun z => by cases z
def dkD (d : Addr) : D := .at (.ref d)
def spDr (d : Addr) : DSp := fun ds n P => ∃ m, ds = [dkD d, .int m] ∧ n < 1000000 ∧ 1 ≤ m ∧ m ≤ 1000000 ∧ ∀ j, 0 ≤ j → j < m → P (.int j) (n + 1)
theorem ok__law_draw (T : Tx K mg) : FnK P w K mg base 1 T.f__law_draw T.d__law_draw ["_law_deck_here", "_law_below"] (deckD dd ll) (spDr dd) := by
  refine FnOk.imp (raw_draw T.F__law_draw T.b_int) fun vs H Q E ⟨G, ds, n, P, hs, hg, hd, hv, ⟨m, hds, h1, h2, h3, h4⟩, q⟩ => ?_
  subst hds
  obtain ⟨ns, br, D⟩ := hd
  have ev : vs = [.ref dd, .int m] := by
    cases hv with
    | cons a1 a2 =>
      cases a1
      cases a2 with
      | cons b1 b2 => cases b1; cases b2; rfl
  subst ev
  · refine ⟨dd, ll, ns, br, n, m, rfl, D, h1, h2, h3, fun j ns' H' hj1 hj2 D' kp => ?_⟩
    refine q (.int j) (n + 1) (h4 j hj1 hj2) _ H' G (Same.refl _) (fun b o hb => ?_) (fun a o e => .inl e) (fun a o e m => ?_) ⟨ns', br, D'⟩ (.int _)
    · refine kp b o (fun e => ?_) (fun e => ?_) (hs b o hb)
      · rw [e, hg dd (by simp [deckD])] at hb; cases hb
      · rw [e, hg ll (by simp [deckD])] at hb; cases hb
    · exact kp a o (fun z => m (by rw [z]; simp [deckD])) (fun z => m (by rw [z]; simp [deckD])) e
/-! ### pick -/
def spPk (d : Addr) : DSp := fun ds n P => ∃ a x, ds = [a, x] ∧ a = dkD d ∧ ∃ its, items x = some its ∧ 1 ≤ its.length ∧ its.length ≤ 1000 ∧ n < 1000000 ∧ ∀ y ∈ its, P y (n + 1)
theorem ix_items {x : D} {its : List D} {j : Int} (e : items x = some its) (h0 : 0 ≤ j) (h1 : j < (its.length : Nat)) : ∃ y ∈ its, ixD x (.int j) = some y := by
  obtain ⟨i, rfl⟩ : ∃ i : Nat, j = (i : Int) := ⟨j.toNat, by omega⟩
  have hi : i < its.length := by omega
  refine ⟨its[i], List.getElem_mem _, ?_⟩
  cases x with
  | lst ds => cases e; exact atI_nat (List.getElem?_eq_getElem hi)
  | tup ds => cases e; exact atI_nat (List.getElem?_eq_getElem hi)
  | str z =>
    cases e
    show (atI z.cps.toList (i : Int)).map (fun c => D.str (chr c)) = _
    have hz : i < z.cps.toList.length := by simpa using hi
    rw [atI_nat (List.getElem?_eq_getElem hz), Option.map_some, List.getElem_map]
  | _ => cases e
theorem len_items {x : D} {its : List D} (e : items x = some its) (hz : its.length ≤ 1000) {P : D → Prop} (h : P (.int (its.length : Nat))) : dLen [x] P := by
  have lz := line_big
  cases x with
  | lst ds => cases e; exact h
  | tup ds => cases e; exact h
  | str z =>
    cases e
    have el : (z.cps.toList.map fun c => D.str (chr c)).length = z.length := by rw [List.length_map]; rfl
    rw [el] at h hz
    exact ⟨by omega, h⟩
  | _ => cases e
theorem ok__law_pick (T : Tx K mg) : FnK P w K mg base 2 T.f__law_pick T.d__law_pick ["_law_deck_here", "_law_some"] (deckD dd ll) (spPk dd) := by
  refine fnk_of T.F__law_pick sc__law_pick (fun ds n P h => ?_) fun cv A out s H E W ds n Q hr h => ?_
  · obtain ⟨_, _, rfl, _⟩ := h; rfl
  obtain ⟨x0, x1, rfl, h⟩ := h
  refine ⟨_, (dss_one (ds_ret (de_ix (dn 1) (de_callK (ok__law_draw T) (hr.mono (by first | decide | omega)) (by rfl) T.g__law_draw T.F__law_draw.kp (bd__law_draw T) (da_cons (dn 0) (da_cons (de_callB dc_len (by rfl) T.b_len (by decide +kernel) (da_cons (dn 1) da_nil)) da_nil))) (fun _ _ => rfl)))), ?_⟩
  dsimp only [dRet, dBack, dJoin, dRetN, dSeq, dNext, dIfS, dAnd, dOr, dNot, dIf, dBool, dNotT, dAndT, dOrT, dBin, dChain, dCall, dCB, dCons, dNil, dTup, dLst, dVar, dC, dAsg, gN, gsNil, gsCons, gT, dSetO, dFor, dIAny, dIR1, dIR2, dIZip, dIEnum, dIRev, dLc, dYes, dDrop, dPar, dWhile, ownL, putO, dAppend, dExtend, dPop, dIxO, dLenO, dIx, dIsiE, dSl, dNoP, dP, dNeg, getS, setS, startD, wipeD, back, List.map]
  obtain ⟨rfl, its, ei, h1, h2, hn, hp⟩ := h
  refine len_items ei h2 ?_
  refine ⟨_, rfl, hn, by omega, by omega, fun j hj1 hj2 => ?_⟩
  obtain ⟨y, hy, ey⟩ := ix_items ei hj1 hj2
  refine ⟨fun z ez => ?_, ?_⟩
  · subst ez
    cases ei
    have lz := line_big
    have el : (z.cps.toList.map fun c => D.str (chr c)).length = z.length := by rw [List.length_map]; rfl
    rw [el] at h2
    omega
  · rw [ey]
    exact hp y hy
/-! ### is_whole -/
theorem ok__law_is_whole (T : Tx K mg) : FnK P w K mg base 1 T.f__law_is_whole T.d__law_is_whole ["_law_it", "_law_below"] k spIndex := by
  refine fnk_of T.F__law_is_whole sc__law_is_whole (fun ds n P h => ?_) fun cv A out s H E W ds n Q hr h => ?_
  · obtain ⟨_, _, rfl, _⟩ := h; rfl
  obtain ⟨x0, x1, rfl, h⟩ := h
  refine ⟨_, (dss_one (ds_ret (de_and (de_isi dc_isInt (by rfl) T.b_isinstance (by decide +kernel) (dn 0) (dty (T := "int") (by rfl) T.b_int (by decide +kernel))) (de_and (de_not (de_isi dc_isBool (by rfl) T.b_isinstance (by decide +kernel) (dn 0) (dty (T := "bool") (by rfl) T.b_bool (by decide +kernel)))) (de_one (de_chain do_le do_lt de_int (dn 0) (dn 1))))))), ?_⟩
  dsimp only [dRet, dBack, dJoin, dRetN, dSeq, dNext, dIfS, dAnd, dOr, dNot, dIf, dBool, dNotT, dAndT, dOrT, dBin, dChain, dCall, dCB, dCons, dNil, dTup, dLst, dVar, dC, dAsg, gN, gsNil, gsCons, gT, dSetO, dFor, dIAny, dIR1, dIR2, dIZip, dIEnum, dIRev, dLc, dYes, dDrop, dPar, dWhile, ownL, putO, dAppend, dExtend, dPop, dIxO, dLenO, dIx, dIsiE, dSl, dNoP, dP, dNeg, getS, setS, startD, wipeD, back, List.map]
  obtain ⟨m, rfl, hp, h⟩ := h
  cases x0 with
  | int i => exact onB_and (a := decide (0 ≤ i)) h
  | ins _ _ _ => exact absurd hp Bool.false_ne_true
  | «at» _ => exact absurd hp Bool.false_ne_true
  | _ => exact h
end
end K44
namespace K44
open PySem PySem.Spec PyProof.Rows L2 Sw Dl
/-! ### any value, by depth and lengths -/
mutual
def dep : D → Nat
  | .lst ds => depS ds + 1
  | .tup ds => depS ds + 1
  | _ => 0
def depS : List D → Nat
  | [] => 0
  | d :: ds => max (dep d) (depS ds)
end
theorem depS_le : ∀ {ds : List D} {n : Nat}, depS ds ≤ n ↔ ∀ d ∈ ds, dep d ≤ n
  | [], n => by simp [depS]
  | d :: ds, n => by
    rw [depS, Nat.max_le, depS_le]; simp
mutual
def anyM (m : Nat) : D → Bool
  | .non => true
  | .bl _ => true
  | .int _ => true
  | .str z => decide (z.length ≤ m)
  | .lst ds => decide (ds.length ≤ m) && anyMs m ds
  | .tup ds => decide (ds.length ≤ m) && anyMs m ds
  | .dk ks ds => ks.isEmpty && ds.isEmpty
  | .dt _ _ => false
  | .ins _ _ _ => false
  | .at _ => false
def anyMs (m : Nat) : List D → Bool
  | [] => true
  | d :: ds => anyM m d && anyMs m ds
end
theorem anyMs_all {m : Nat} : ∀ ds : List D, anyMs m ds = true ↔ ∀ d ∈ ds, anyM m d = true
  | [] => by simp [anyMs]
  | d :: ds => by rw [anyMs, Bool.and_eq_true, anyMs_all ds]; simp
mutual
theorem anyM_up {m n : Nat} (h : m ≤ n) : ∀ d : D, anyM m d = true → anyM n d = true
  | .non, _ => rfl
  | .bl _, _ => rfl
  | .int _, _ => rfl
  | .str z, e => decide_eq_true (Nat.le_trans (of_decide_eq_true e) h)
  | .lst ds, e => by
    obtain ⟨h1, h2⟩ := Bool.and_eq_true_iff.mp (show (decide (ds.length ≤ m) && anyMs m ds) = true from e)
    exact Bool.and_eq_true_iff.mpr ⟨decide_eq_true (Nat.le_trans (of_decide_eq_true h1) h), anyMs_up h ds h2⟩
  | .tup ds, e => by
    obtain ⟨h1, h2⟩ := Bool.and_eq_true_iff.mp (show (decide (ds.length ≤ m) && anyMs m ds) = true from e)
    exact Bool.and_eq_true_iff.mpr ⟨decide_eq_true (Nat.le_trans (of_decide_eq_true h1) h), anyMs_up h ds h2⟩
  | .dk ks ds, e => e
  | .dt _ _, e => by cases e
  | .ins _ _ _, e => by cases e
  | .at _, e => by cases e
theorem anyMs_up {m n : Nat} (h : m ≤ n) : ∀ ds : List D, anyMs m ds = true → anyMs n ds = true
  | [], _ => rfl
  | d :: ds, e => by
    obtain ⟨h1, h2⟩ := Bool.and_eq_true_iff.mp (show (anyM m d && anyMs m ds) = true from e)
    exact Bool.and_eq_true_iff.mpr ⟨anyM_up h d h1, anyMs_up h ds h2⟩
end
theorem anyM_tup {m : Nat} {ds : List D} : anyM m (.tup ds) = true ↔ ds.length ≤ m ∧ ∀ d ∈ ds, anyM m d = true := by
  show (decide (ds.length ≤ m) && anyMs m ds) = true ↔ _
  rw [Bool.and_eq_true, decide_eq_true_eq, anyMs_all]
theorem anyM_lst {m : Nat} {ds : List D} : anyM m (.lst ds) = true ↔ ds.length ≤ m ∧ ∀ d ∈ ds, anyM m d = true := anyM_tup
theorem anyM_str {m : Nat} {z : Str} : anyM m (.str z) = true ↔ z.length ≤ m := by
  show decide (z.length ≤ m) = true ↔ _
  rw [decide_eq_true_eq]
theorem anyM_plain {m : Nat} {d : D} (h : anyM m d = true) : plain d = true := by
  cases d with
  | ins _ _ _ => exact h
  | «at» _ => exact h
  | _ => rfl
/-- a value of depth under n, of lengths up to m -/
structure Bd (n m : Nat) (d : D) : Prop where
  a : anyM m d = true
  d : dep d ≤ n
theorem Bd.up {n m n' m' : Nat} {d : D} (b : Bd n m d) (h : n ≤ n') (h' : m ≤ m') : Bd n' m' d := ⟨anyM_up h' _ b.a, Nat.le_trans b.d h⟩
theorem bd_tup {n m : Nat} {ds : List D} : Bd (n + 1) m (.tup ds) ↔ ds.length ≤ m ∧ ∀ d ∈ ds, Bd n m d := by
  constructor
  · rintro ⟨h1, h2⟩
    obtain ⟨h3, h4⟩ := anyM_tup.mp h1
    have h2 : depS ds + 1 ≤ n + 1 := h2
    have h5 := depS_le.mp (Nat.le_of_succ_le_succ h2)
    exact ⟨h3, fun d hd => ⟨h4 d hd, h5 d hd⟩⟩
  · rintro ⟨h1, h2⟩
    exact ⟨anyM_tup.mpr ⟨h1, fun d hd => (h2 d hd).a⟩, Nat.succ_le_succ (depS_le.mpr fun d hd => (h2 d hd).d)⟩
theorem bd_lst {n m : Nat} {ds : List D} : Bd (n + 1) m (.lst ds) ↔ ds.length ≤ m ∧ ∀ d ∈ ds, Bd n m d := ⟨fun h => bd_tup.mp ⟨h.a, h.d⟩, fun h => ⟨(bd_tup.mpr h).a, (bd_tup.mpr h).d⟩⟩
theorem bd_str {n m : Nat} {z : Str} (h : z.length ≤ m) : Bd n m (.str z) := ⟨anyM_str.mpr h, Nat.zero_le _⟩
theorem cutD_mem {α : Type} {xs : List α} {lo hi : Option Int} {x : α} (h : x ∈ Dl.cutD xs lo hi) : x ∈ xs := by
  unfold Dl.cutD at h
  exact List.mem_of_mem_drop (List.mem_of_mem_take h)
theorem cut_lo {α : Type} {xs : List α} {a : Int} (h0 : 0 ≤ a) : (Dl.cutD xs none (some a)).length = min a.toNat xs.length := by
  obtain ⟨i, rfl⟩ : ∃ i : Nat, a = (i : Int) := ⟨a.toNat, by omega⟩
  unfold Dl.cutD
  rw [HT.sIx_none, HT.sIx_nat, List.drop_zero, Nat.sub_zero, List.length_take]; simp
theorem cut_hi {α : Type} {xs : List α} {a : Int} (h0 : 0 ≤ a) : (Dl.cutD xs (some a) none).length = xs.length - a.toNat := by
  obtain ⟨i, rfl⟩ : ∃ i : Nat, a = (i : Int) := ⟨a.toNat, by omega⟩
  unfold Dl.cutD
  rw [HT.sIx_none, HT.sIx_nat, List.length_take, List.length_drop]; omega
theorem cutS_lo {z : Str} {a : Int} (h0 : 0 ≤ a) : (cutS z none (some a)).length ≤ a.toNat := by
  obtain ⟨i, rfl⟩ : ∃ i : Nat, a = (i : Int) := ⟨a.toNat, by omega⟩
  show (((z.cps.toList.drop (HT.sIx z.length 0 none)).take (HT.sIx z.length z.length (some (i : Int)) - HT.sIx z.length 0 none)).toArray).size ≤ _
  rw [HT.sIx_none, HT.sIx_nat, List.size_toArray, List.length_take]; omega
theorem cutS_hi {z : Str} {a : Int} (h0 : 0 ≤ a) : (cutS z (some a) none).length ≤ z.length - a.toNat := by
  obtain ⟨i, rfl⟩ : ∃ i : Nat, a = (i : Int) := ⟨a.toNat, by omega⟩
  show (((z.cps.toList.drop (HT.sIx z.length 0 (some (i : Int)))).take (HT.sIx z.length z.length none - HT.sIx z.length 0 (some (i : Int)))).toArray).size ≤ _
  rw [HT.sIx_none, HT.sIx_nat, List.size_toArray, List.length_take, List.length_drop, Array.length_toList]
  show min _ (z.length - _) ≤ _
  omega
theorem cutD_len {α : Type} {xs : List α} {lo hi : Option Int} : (Dl.cutD xs lo hi).length ≤ xs.length := by
  unfold Dl.cutD
  rw [List.length_take, List.length_drop]; omega
theorem cutS_len {z : Str} {lo hi : Option Int} : (cutS z lo hi).length ≤ z.length := by
  show (((z.cps.toList.drop (HT.sIx z.length 0 lo)).take (HT.sIx z.length z.length hi - HT.sIx z.length 0 lo)).toArray).size ≤ z.cps.size
  rw [List.size_toArray, List.length_take, List.length_drop, Array.length_toList]
  omega
section
variable {P : Program} {w : World} {K : PySem.W.Frag} {mg : Str → Option Value} {base : Heap} {k : Dek} {dd ll : Addr}
def odd : List D := [.non, .bl true, .bl false, .int 0, .int 1, .int (-1), .str "", .str "a", .str "ab", .tup [.tup [.int 0, .str "a", .int 0]], .tup [.int 0, .str "a", .int 0], .tup [], .tup [.int 0], .tup [.int 0, .int 1], .lst [], .dk [] [], .tup [.tup [.int 0]]]
theorem odd_b : ∀ y ∈ odd, anyM 3 y = true ∧ dep y ≤ 2 := by
  unfold odd
  simp only [List.mem_cons, List.not_mem_nil, or_false, forall_eq_or_imp, forall_eq]
  decide +kernel
theorem odd_bd : ∀ y ∈ odd, Bd 2 3 y := fun y h => ⟨(odd_b y h).1, (odd_b y h).2⟩
def spBent (n : Nat) (d : Addr) : DSp := fun ds dr P => ∃ a x, ds = [a, x] ∧ a = dkD d ∧ dep x < n ∧ ∃ m, anyM m x = true ∧ 3 ≤ m ∧ m ≤ 400 ∧ dr + 5 * (n : Int) < 900000 ∧ ∀ y dr', Bd (n + 2) (m + 2) y → dr' ≤ dr + 5 * (n : Int) → P y dr'
theorem bent_0 (T : Tx K mg) : FnK P w K mg base 3 T.f__law_bent T.d__law_bent ["_law_deck_here", "_law_it"] (deckD dd ll) (spBent 0 dd) :=
  ⟨fun vs H Q E ⟨_, _, _, _, _, _, _, _, ⟨_, _, _, _, h, _⟩, _⟩ => absurd h (Nat.not_lt_zero _), fun _ _ _ _ _ _ _ _ _ _ _ _ _ ⟨_, _, _, _, _, _, _, _, ⟨_, _, _, _, h, _⟩, _⟩ => absurd h (Nat.not_lt_zero _)⟩
theorem bent_s (T : Tx K mg) (j : Nat) (IH : FnK P w K mg base (3 + j) T.f__law_bent T.d__law_bent ["_law_deck_here", "_law_it"] (deckD dd ll) (spBent j dd)) : FnK P w K mg base (3 + j + 1) T.f__law_bent T.d__law_bent ["_law_deck_here", "_law_it"] (deckD dd ll) (spBent (j + 1) dd) := by
  refine fnk_of T.F__law_bent sc__law_bent (fun ds n P h => ?_) fun cv A out s H E W ds n Q hr h => ?_
  · obtain ⟨_, _, rfl, _⟩ := h; rfl
  obtain ⟨x0, x1, rfl, rfl, hd, m, hm, hm3, hm4, hdr, hq⟩ := h
  refine ⟨_, (dss_cons (ds_if (dt_w (dw_and (dt_val (de_isi dc_isTup (by rfl) T.b_isinstance (by decide +kernel) (dn 1) (dty (T := "tuple") (by rfl) T.b_tuple (by decide +kernel)))) (dw_and (dt_cmp (DOpB.op (do_neNil hr.units)) (dn 1) (de_tup da_nil)) (dw_and1 (dt_cmp (DOpB.op do_gt) (de_callK (ok__law_draw T) (hr.mono (by first | decide | omega)) (by rfl) T.g__law_draw T.F__law_draw.kp (bd__law_draw T) (da_cons (dn 0) (da_cons de_int da_nil))) de_int))))) (dss_cons (ds_par (i := 3) (j := 4) rfl sc__law_bent.nd rfl rfl (by decide) rfl rfl (da_cons (de_callK (ok__law_draw T) (hr.mono (by first | decide | omega)) (by rfl) T.g__law_draw T.F__law_draw.kp (bd__law_draw T) (da_cons (dn 0) (da_cons (de_callB dc_len (by rfl) T.b_len (by decide +kernel) (da_cons (dn 1) da_nil)) da_nil))) (da_cons (de_callK (ok__law_draw T) (hr.mono (by first | decide | omega)) (by rfl) T.g__law_draw T.F__law_draw.kp (bd__law_draw T) (da_cons (dn 0) (da_cons de_int da_nil))) da_nil)) (fun h => ps_par rfl sc__law_bent.nd rfl rfl (by decide) rfl rfl h rfl))
      (dss_cons (ds_if (dt_cmp (DOpB.op (do_eq hr.units)) (dn 4) de_int) (dss_one (ds_ret (de_op do_op_add (de_sl (dn 1) dp_none (dp_some (dn 3))) (de_sl (dn 1) (dp_some (de_op do_op_add (dn 3) de_int)) dp_none)))) dss_nil)
      (dss_cons (ds_if (dt_cmp (DOpB.op (do_eq hr.units)) (dn 4) de_int) (dss_one (ds_ret (de_op do_op_add (de_sl (dn 1) dp_none (dp_some (de_op do_op_add (dn 3) de_int))) (de_sl (dn 1) (dp_some (dn 3)) dp_none)))) dss_nil)
      (dss_cons (ds_if (dt_cmp (DOpB.op (do_eq hr.units)) (dn 4) de_int) (dss_one (ds_ret (de_callK (ok__law_pick T) (hr.mono (by first | decide | omega)) (by rfl) T.g__law_pick T.F__law_pick.kp (bd__law_pick T) (da_cons (dn 0) (da_cons (DO.de (do_lst (da_cons (de_back (dn 1)) (da_cons (DO.de (do_callTy dc_list (by rfl) T.b_list (by decide +kernel) (da_cons (dn 1) da_nil))) (da_cons (de_op do_op_add (dn 1) (de_sl (dn 1) dp_none (dp_some de_int))) da_nil))))) da_nil))))) dss_nil)
      (dss_one (ds_ret (de_op do_op_add (de_op do_op_add (de_sl (dn 1) dp_none (dp_some (dn 3))) (de_tup (da_cons (de_callK IH (hr.mono (by first | decide | omega)) (by rfl) T.g__law_bent T.F__law_bent.kp (bd__law_bent T) (da_cons (dn 0) (da_cons (de_ix (dn 1) (dn 3) (fun _ _ => rfl)) da_nil))) da_nil))) (de_sl (dn 1) (dp_some (de_op do_op_add (dn 3) de_int)) dp_none)))))))) dss_nil)
      (dss_cons (ds_if (dt_w (dw_and (dt_val (de_isi dc_isInt (by rfl) T.b_isinstance (by decide +kernel) (dn 1) (dty (T := "int") (by rfl) T.b_int (by decide +kernel)))) (dw_and (dt_not (dt_val (de_isi dc_isBool (by rfl) T.b_isinstance (by decide +kernel) (dn 1) (dty (T := "bool") (by rfl) T.b_bool (by decide +kernel))))) (dw_and1 (dt_cmp (DOpB.op do_gt) (de_callK (ok__law_draw T) (hr.mono (by first | decide | omega)) (by rfl) T.g__law_draw T.F__law_draw.kp (bd__law_draw T) (da_cons (dn 0) (da_cons de_int da_nil))) de_int))))) (dss_one (ds_ret (de_op do_op_add (dn 1) (de_callK (ok__law_pick T) (hr.mono (by first | decide | omega)) (by rfl) T.g__law_pick T.F__law_pick.kp (bd__law_pick T) (da_cons (dn 0) (da_cons (DO.de (do_lst (da_cons de_int (da_cons (de_neg de_int) (da_cons de_int da_nil))))) da_nil)))))) dss_nil)
      (dss_cons (ds_if (dt_w (dw_and (dt_val (de_isi dc_isStr (by rfl) T.b_isinstance (by decide +kernel) (dn 1) (dty (T := "str") (by rfl) T.b_str (by decide +kernel)))) (dw_and1 (dt_cmp (DOpB.op do_gt) (de_callK (ok__law_draw T) (hr.mono (by first | decide | omega)) (by rfl) T.g__law_draw T.F__law_draw.kp (bd__law_draw T) (da_cons (dn 0) (da_cons de_int da_nil))) de_int)))) (dss_cons (ds_set (i := 3) sc__law_bent.nd rfl (by first | exact .inl rfl | exact .inr rfl) (de_callK (ok__law_draw T) (hr.mono (by first | decide | omega)) (by rfl) T.g__law_draw T.F__law_draw.kp (bd__law_draw T) (da_cons (dn 0) (da_cons (de_op do_op_add (de_callB dc_len (by rfl) T.b_len (by decide +kernel) (da_cons (dn 1) da_nil)) de_int) da_nil))))
      (dss_one (ds_ret (de_op do_op_add (de_op do_op_add (de_sl (dn 1) dp_none (dp_some (dn 3))) (de_callK (ok__law_pick T) (hr.mono (by first | decide | omega)) (by rfl) T.g__law_pick T.F__law_pick.kp (bd__law_pick T) (da_cons (dn 0) (da_cons (DO.de (do_lst (da_cons de_str (da_cons de_str (da_cons de_str (da_cons de_str (da_cons de_str (da_cons de_str da_nil)))))))) da_nil)))) (de_sl (dn 1) (dp_some (de_op do_op_add (dn 3) (de_callK (ok__law_draw T) (hr.mono (by first | decide | omega)) (by rfl) T.g__law_draw T.F__law_draw.kp (bd__law_draw T) (da_cons (dn 0) (da_cons de_int da_nil))))) dp_none))))) dss_nil)
      (dss_cons (ds_set (i := 2) sc__law_bent.nd rfl (by first | exact .inl rfl | exact .inr rfl) (DO.de (do_lst (da_cons de_non (da_cons de_bl (da_cons de_bl (da_cons de_int (da_cons de_int (da_cons (de_neg de_int) (da_cons de_str (da_cons de_str (da_cons de_str (da_cons (de_tup (da_cons (de_tup (da_cons de_int (da_cons de_str (da_cons de_int da_nil)))) da_nil)) (da_cons (de_tup (da_cons de_int (da_cons de_str (da_cons de_int da_nil)))) (da_cons (de_tup da_nil) (da_cons (de_tup (da_cons de_int da_nil)) (da_cons (de_tup (da_cons de_int (da_cons de_int da_nil))) (da_cons (DO.de (do_lst da_nil)) (da_cons (DO.de do_emp) (da_cons (de_tup (da_cons (de_tup (da_cons de_int da_nil)) da_nil)) da_nil))))))))))))))))))))
      (dss_one (ds_ret (de_callK (ok__law_pick T) (hr.mono (by first | decide | omega)) (by rfl) T.g__law_pick T.F__law_pick.kp (bd__law_pick T) (da_cons (dn 0) (da_cons (dn 2) da_nil))))))))), ?_⟩
  have oddE : ∀ y ∈ odd, ∀ n' : Int, n' ≤ n + 5 * ((j + 1 : Nat) : Int) → Q y n' := fun y hy n' h => hq y n' ((odd_bd y hy).up (by omega) (by omega)) h
  cases x1 with
  | tup ds =>
    cases ds with
    | nil =>
      conv => whnf
      refine ⟨Nat.zero_le _, ?_⟩
      ((conv => whnf); (repeat (refine ⟨by decide, ?_⟩; (conv => whnf))); refine ⟨_, _, rfl, rfl, odd, rfl, by decide, by decide, by first | omega | (dsimp only; omega), fun y hy => oddE y hy _ (by first | omega | (dsimp only; omega))⟩)
    | cons d0 ds =>
      obtain ⟨hlen, hall⟩ := anyM_tup.mp hm
      have hdp : depS (d0 :: ds) < j := Nat.lt_of_succ_lt_succ hd
      have hde : ∀ d ∈ d0 :: ds, dep d ≤ depS (d0 :: ds) := depS_le.mp (Nat.le_refl _)
      generalize hl : d0 :: ds = l at *
      have hne : l ≠ [] := by rw [← hl]; simp
      have hne2 : 1 ≤ l.length := by cases l with
        | nil => exact absurd rfl hne
        | cons _ _ => simp
      have hel : ∀ d ∈ l, Bd (j + 2) (m + 2) d := fun d hd => ⟨anyM_up (by omega) _ (hall d hd), by have := hde d hd; omega⟩
      have mk : ∀ rs : List D, rs.length ≤ m + 2 → (∀ r ∈ rs, Bd (j + 2) (m + 2) r) → Bd (j + 1 + 2) (m + 2) (.tup rs) := fun rs h1 h2 => bd_tup.mpr ⟨h1, h2⟩
      have cut : ∀ lo hi, (Dl.cutD l lo hi).length ≤ m ∧ ∀ r ∈ Dl.cutD l lo hi, Bd (j + 2) (m + 2) r := fun lo hi => ⟨Nat.le_trans cutD_len hlen, fun r hr => hel r (cutD_mem hr)⟩
      have lz := line_big
      conv => whnf
      refine ⟨Nat.zero_le _, ?_⟩
      conv => whnf
      have el : (!l.isEmpty) = true := by rw [← hl]; rfl
      refine onT_t el ?_
      conv => whnf
      refine ⟨7, rfl, by first | omega | (dsimp only; omega), by decide, by decide, fun i0 _ _ => ?_⟩
      conv => whnf
      refine onT_of (fun _ => ?_) (fun _ => ?_)
      · conv => whnf
        refine ⟨_, rfl, by first | omega | (dsimp only; omega), by first | omega | (dsimp only; omega), by first | omega | (dsimp only; omega), fun a ha0 ha1 => ?_⟩
        conv => whnf
        refine ⟨9, rfl, by first | omega | (dsimp only; omega), by decide, by decide, fun wy _ _ => ?_⟩
        conv => whnf
        refine onT_of (fun _ => ?_) (fun _ => ?_)
        · conv => whnf
          have h1 := cut none (some a)
          have h2 := cut (some (a + 1)) none
          have e1 : (Dl.cutD l none (some a)).length = _ := cut_lo ha0
          have e2 : (Dl.cutD l (some (a + 1)) none).length = _ := cut_hi (by omega)
          refine ⟨by omega, hq _ _ (mk _ (by rw [List.length_append]; omega) fun r hr => ?_) (by first | omega | (dsimp only; omega))⟩
          exact (List.mem_append.mp hr).elim (h1.2 r) (h2.2 r)
        · conv => whnf
          refine onT_of (fun _ => ?_) (fun _ => ?_)
          · conv => whnf
            have h1 := cut none (some (a + 1))
            have h2 := cut (some a) none
            have e1 : (Dl.cutD l none (some (a + 1))).length = _ := cut_lo (by omega)
            have e2 : (Dl.cutD l (some a) none).length = _ := cut_hi ha0
            refine ⟨by omega, hq _ _ (mk _ (by rw [List.length_append]; omega) fun r hr => ?_) (by first | omega | (dsimp only; omega))⟩
            exact (List.mem_append.mp hr).elim (h1.2 r) (h2.2 r)
          · conv => whnf
            refine onT_of (fun _ => ?_) (fun _ => ?_)
            · conv => whnf
              have h1 := cut none (some 1)
              have e1 : (Dl.cutD l none (some 1)).length = _ := cut_lo (by decide)
              refine ⟨by omega, ?_⟩
              conv => whnf
              refine ⟨by show 3 ≤ sizeLine; decide, ?_⟩
              conv => whnf
              refine ⟨_, _, rfl, rfl, _, rfl, by show 1 ≤ 3; decide, by show 3 ≤ 1000; decide, by first | omega | (dsimp only; omega), fun y hy => ?_⟩
              refine hq y _ ?_ (by first | omega | (dsimp only; omega))
              rcases List.mem_cons.mp hy with rfl | hy
              · exact mk _ (by rw [List.length_reverse]; omega) fun r hr => hel r (List.mem_reverse.mp hr)
              rcases List.mem_cons.mp hy with rfl | hy
              · exact bd_lst.mpr ⟨by omega, hel⟩
              · rw [List.mem_singleton.mp hy]
                exact mk _ (by rw [List.length_append]; omega) fun r hr => (List.mem_append.mp hr).elim (hel r) (h1.2 r)
            · conv => whnf
              have h1 := cut none (some a)
              have h2 := cut (some (a + 1)) none
              have e1 : (Dl.cutD l none (some a)).length = _ := cut_lo ha0
              have e2 : (Dl.cutD l (some (a + 1)) none).length = _ := cut_hi (by omega)
              obtain ⟨i2, rfl⟩ : ∃ i : Nat, a = (i : Int) := ⟨a.toNat, by omega⟩
              have hi2 : i2 < l.length := by omega
              refine ⟨(fun z e => by cases e), ?_⟩
              have eix : ixD (.tup l) (.int (i2 : Int)) = some l[i2] := atI_nat (List.getElem?_eq_getElem hi2)
              have hmem : l[i2] ∈ l := List.getElem_mem _
              rw [eix]
              conv => whnf
              refine ⟨_, _, rfl, rfl, by have := hde _ hmem; omega, m, hall _ hmem, hm3, hm4, by first | omega | (dsimp only; omega), fun y dr' hy hdr' => ?_⟩
              conv => whnf
              refine ⟨by show 1 ≤ sizeLine; decide, ?_⟩
              conv => whnf
              refine ⟨by show _ + 1 ≤ sizeLine; omega, ?_⟩
              conv => whnf
              refine ⟨by rw [List.length_append]; show _ + 1 + _ ≤ sizeLine; omega, ?_⟩
              refine hq _ _ (mk _ ?_ fun r hr => ?_) (by revert hdr'; dsimp only; omega)
              · rw [List.length_append, List.length_append]; show _ + 1 + _ ≤ _; omega
              · rcases List.mem_append.mp hr with hr | hr
                · rcases List.mem_append.mp hr with hr | hr
                  · exact h1.2 r hr
                  · rw [List.mem_singleton.mp hr]; exact hy
                · exact h2.2 r hr
      · ((conv => whnf); (repeat (refine ⟨by decide, ?_⟩; (conv => whnf))); refine ⟨_, _, rfl, rfl, odd, rfl, by decide, by decide, by first | omega | (dsimp only; omega), fun y hy => oddE y hy _ (by first | omega | (dsimp only; omega))⟩)
  | int i =>
    conv => whnf
    refine ⟨4, rfl, by first | omega | (dsimp only; omega), by decide, by decide, fun i0 _ _ => ?_⟩
    conv => whnf
    refine onT_of (fun _ => ?_) (fun _ => ?_)
    · conv => whnf
      refine ⟨by decide, ?_⟩
      conv => whnf
      refine ⟨_, _, rfl, rfl, _, rfl, by decide, by decide, by first | omega | (dsimp only; omega), fun y hy => ?_⟩
      have fin : ∀ k : Int, ∀ n' : Int, n' ≤ n + 5 * ((j + 1 : Nat) : Int) → Q (.int k) n' := fun k n' h => hq _ _ ⟨rfl, Nat.zero_le _⟩ h
      rcases List.mem_cons.mp hy with rfl | hy
      · exact fin _ _ (by first | omega | (dsimp only; omega))
      rcases List.mem_cons.mp hy with rfl | hy
      · exact fin _ _ (by first | omega | (dsimp only; omega))
      · rw [List.mem_singleton.mp hy]
        exact fin _ _ (by first | omega | (dsimp only; omega))
    · ((conv => whnf); (repeat (refine ⟨by decide, ?_⟩; (conv => whnf))); refine ⟨_, _, rfl, rfl, odd, rfl, by decide, by decide, by first | omega | (dsimp only; omega), fun y hy => oddE y hy _ (by first | omega | (dsimp only; omega))⟩)
  | str z =>
    have lz := line_big
    have hzl : z.length ≤ m := anyM_str.mp hm
    conv => whnf
    refine ⟨4, rfl, by first | omega | (dsimp only; omega), by decide, by decide, fun i0 _ _ => ?_⟩
    conv => whnf
    refine onT_of (fun _ => ?_) (fun _ => ?_)
    · conv => whnf
      refine ⟨by omega, ?_⟩
      conv => whnf
      refine ⟨_, rfl, by first | omega | (dsimp only; omega), by first | omega | (dsimp only; omega), by first | omega | (dsimp only; omega), fun a ha0 ha1 => ?_⟩
      conv => whnf
      refine ⟨by omega, ?_⟩
      conv => whnf
      refine ⟨by show 6 ≤ sizeLine; decide, ?_⟩
      conv => whnf
      refine ⟨_, _, rfl, rfl, _, rfl, by show 1 ≤ 6; decide, by show 6 ≤ 1000; decide, by first | omega | (dsimp only; omega), fun y hy => ?_⟩
      obtain ⟨w', rfl, hw'⟩ : ∃ w' : Str, y = .str w' ∧ w'.length ≤ 1 := by
        rcases List.mem_cons.mp hy with rfl | hy
        · exact ⟨_, rfl, by decide⟩
        rcases List.mem_cons.mp hy with rfl | hy
        · exact ⟨_, rfl, by decide⟩
        rcases List.mem_cons.mp hy with rfl | hy
        · exact ⟨_, rfl, by decide⟩
        rcases List.mem_cons.mp hy with rfl | hy
        · exact ⟨_, rfl, by decide⟩
        rcases List.mem_cons.mp hy with rfl | hy
        · exact ⟨_, rfl, by decide⟩
        · rw [List.mem_singleton.mp hy]
          exact ⟨_, rfl, by decide⟩
      have h1 : (cutS z none (some a)).length ≤ a.toNat := cutS_lo ha0
      conv => whnf
      refine ⟨by omega, ?_⟩
      have hc : ∀ x y : Str, (x ++ y).length = x.length + y.length := fun x y => by
        show (x.cps ++ y.cps).size = _
        rw [Array.size_append]; rfl
      conv => whnf
      refine ⟨2, rfl, by first | omega | (dsimp only; omega), by decide, by decide, fun b hb0 _ => ?_⟩
      conv => whnf
      refine ⟨by omega, ?_⟩
      have h2 : (cutS z (some (a + b)) none).length ≤ z.length - (a + b).toNat := cutS_hi (by omega)
      conv => whnf
      refine ⟨by rw [hc]; omega, hq _ _ (bd_str (by rw [hc, hc]; omega)) (by first | omega | (dsimp only; omega))⟩
    · ((conv => whnf); (repeat (refine ⟨by decide, ?_⟩; (conv => whnf))); refine ⟨_, _, rfl, rfl, odd, rfl, by decide, by decide, by first | omega | (dsimp only; omega), fun y hy => oddE y hy _ (by first | omega | (dsimp only; omega))⟩)
  | lst _ => (conv => whnf); ((conv => whnf); (repeat (refine ⟨by decide, ?_⟩; (conv => whnf))); refine ⟨_, _, rfl, rfl, odd, rfl, by decide, by decide, by first | omega | (dsimp only; omega), fun y hy => oddE y hy _ (by first | omega | (dsimp only; omega))⟩)
  | non => (conv => whnf); ((conv => whnf); (repeat (refine ⟨by decide, ?_⟩; (conv => whnf))); refine ⟨_, _, rfl, rfl, odd, rfl, by decide, by decide, by first | omega | (dsimp only; omega), fun y hy => oddE y hy _ (by first | omega | (dsimp only; omega))⟩)
  | bl _ => (conv => whnf); ((conv => whnf); (repeat (refine ⟨by decide, ?_⟩; (conv => whnf))); refine ⟨_, _, rfl, rfl, odd, rfl, by decide, by decide, by first | omega | (dsimp only; omega), fun y hy => oddE y hy _ (by first | omega | (dsimp only; omega))⟩)
  | dk _ _ => (conv => whnf); ((conv => whnf); (repeat (refine ⟨by decide, ?_⟩; (conv => whnf))); refine ⟨_, _, rfl, rfl, odd, rfl, by decide, by decide, by first | omega | (dsimp only; omega), fun y hy => oddE y hy _ (by first | omega | (dsimp only; omega))⟩)
  | dt _ _ => cases hm
  | ins _ _ _ => cases hm
  | «at» _ => cases hm
theorem ok__law_bent (T : Tx K mg) : ∀ n : Nat, FnK P w K mg base (3 + n) T.f__law_bent T.d__law_bent ["_law_deck_here", "_law_it"] (deckD dd ll) (spBent n dd)
  | 0 => bent_0 T
  | j + 1 => bent_s T j (ok__law_bent T j)
end
end K44
namespace K44
open PySem PySem.Spec PyProof.Rows L2 Sw Dl
section
variable {P : Program} {w : World} {K : PySem.W.Frag} {mg : Str → Option Value} {base : Heap} {k : Dek} {dd ll : Addr}
/-! ### a page -/
def spPage (d : Addr) : DSp := fun ds n P => ∃ a b c, ds = [a, b, c] ∧ a = dkD d ∧ ∃ (zs : Str) (t : Nat), b = .str zs ∧ c = .int t ∧ 1 ≤ zs.length ∧ zs.length ≤ 1000 ∧ t ≤ 40 ∧ n < 900000 ∧
  ∀ (z : Str) (n' : Int), z.length ≤ t → (∀ c ∈ z.cps.toList, c ∈ zs.cps.toList) → n' ≤ n + 42 → P (.str z) n'
theorem cat_codes (a b : Str) : (a ++ b).cps.toList = a.cps.toList ++ b.cps.toList := by
  show (a.cps ++ b.cps).toList = _
  rw [Array.toList_append]
theorem join_codes : ∀ ys : List Str, (Str.join "" ys).cps.toList = (ys.map fun y => y.cps.toList).flatten
  | [] => rfl
  | [x] => by simp [Str.join]
  | x :: y :: r => by
    have e : (("" : Str)).cps.toList = [] := by decide
    show (x ++ "" ++ Str.join "" (y :: r)).cps.toList = _
    rw [cat_codes, cat_codes, e, join_codes (y :: r), List.append_nil]
    simp only [List.map_cons, List.flatten_cons]
theorem join_flat (zs : List Str) : (Txt.join "" zs).cps.toList = (zs.map fun y => y.cps.toList).flatten := by
  have e : Txt.join "" zs = Str.join "" zs := eq_of_beq (join_plain_closes "" zs)
  rw [e, join_codes]
theorem ones_sum {zs : List Str} (h : ∀ z ∈ zs, z.length = 1) : (zs.map (·.length)).sum = zs.length := by
  induction zs with
  | nil => rfl
  | cons z zs ih =>
    rw [List.map_cons, List.sum_cons, h z (List.mem_cons_self ..), ih fun y hy => h y (List.mem_cons_of_mem _ hy), List.length_cons]; omega
theorem ones_flat {zs : List Str} (h : ∀ z ∈ zs, z.length = 1) : (zs.map fun y => y.cps.toList).flatten.length = zs.length := by
  induction zs with
  | nil => rfl
  | cons z zs ih =>
    have h1 : z.cps.toList.length = 1 := h z (List.mem_cons_self ..)
    rw [List.map_cons, List.flatten_cons, List.length_append, ih fun y hy => h y (List.mem_cons_of_mem _ hy), h1, List.length_cons]; omega
theorem chr_len (c : Nat) : (chr c).length = 1 := rfl
theorem ok__law_page (T : Tx K mg) : FnK P w K mg base 3 T.f__law_page T.d__law_page ["_law_deck_here", "_law_signs", "_law_most"] (deckD dd ll) (spPage dd) := by
  refine fnk_of T.F__law_page sc__law_page (fun ds n P h => ?_) fun cv A out s H E W ds n Q hr h => ?_
  · obtain ⟨_, _, _, rfl, _⟩ := h; rfl
  obtain ⟨x0, x1, x2, rfl, h⟩ := h
  refine ⟨_, (dss_one (ds_ret (de_join de_str (DO.de (do_lc (own := [("_law_go", 3)]) rfl sc__law_page.nd (di_range1 (by rfl) T.b_range (da_cons (de_callK (ok__law_draw T) (hr.mono (by first | decide | omega)) (by rfl) T.g__law_draw T.F__law_draw.kp (bd__law_draw T) (da_cons (dn 0) (da_cons (de_op do_op_add (dn 2) de_int) da_nil))) da_nil)) (blkOk_by (N := ["_law_deck_here", "_law_signs", "_law_most", "_law_go"]) (sc := defScope (top 20)) (by decide +kernel)) (fun _ _ _ _ _ _ => (dg_name (i := 3) sc__law_page.nd rfl (by first | exact .inl rfl | exact .inr rfl))) (fun _ _ _ _ _ _ => dts_nil) (fun _ _ _ _ _ _ => (de_callK (ok__law_pick T) (hr.mono (by first | decide | omega)) (by rfl) T.g__law_pick T.F__law_pick.kp (bd__law_pick T) (da_cons (dn 0) (da_cons (dn 1) da_nil))))))))), ?_⟩
  dsimp only [dRet, dBack, dJoin, dRetN, dSeq, dNext, dIfS, dAnd, dOr, dNot, dIf, dBool, dNotT, dAndT, dOrT, dBin, dChain, dCall, dCB, dCons, dNil, dTup, dLst, dVar, dC, dAsg, gN, gsNil, gsCons, gT, dSetO, dFor, dIAny, dIR1, dIR2, dIZip, dIEnum, dIRev, dLc, dYes, dDrop, dPar, dWhile, ownL, putO, dAppend, dExtend, dPop, dIxO, dLenO, dIx, dIsiE, dSl, dNoP, dP, dNeg, getS, setS, startD, wipeD, back, List.map]
  obtain ⟨rfl, zs, t, rfl, rfl, h1, h2, h3, hn, hq⟩ := h
  have lz := line_big
  refine ⟨_, rfl, by first | omega | (dsimp only; omega), by omega, by omega, fun j hj0 hj1 => ?_⟩
  obtain ⟨i, rfl⟩ : ∃ i : Nat, j = (i : Int) := ⟨j.toNat, by omega⟩
  refine ⟨by omega, ?_⟩
  refine lcL_J (fun i acc dr => ∃ ys : List Str, acc = ys.map D.str ∧ ys.length = i ∧ (∀ y ∈ ys, y.length = 1 ∧ ∀ c ∈ y.cps.toList, c ∈ zs.cps.toList) ∧ dr ≤ n + 1 + i) (upto 0 (i : Int).toNat) 0 [] _ ?_ ?_ ?_ ⟨[], rfl, rfl, (fun _ h => by cases h), by first | omega | (dsimp only; omega)⟩
  · rintro d hd i' acc dr hi' ⟨ys, rfl, el, hall, hdr⟩ A B hA hB
    have hi' : i' < i := by unfold upto at hi'; rw [List.length_map, List.length_range] at hi'; omega
    conv => whnf
    refine ⟨_, _, rfl, rfl, _, rfl, by rw [List.length_map]; exact h1, by rw [List.length_map]; exact h2, by first | omega | (dsimp only; omega), fun y hy => ?_⟩
    obtain ⟨c, hc, rfl⟩ := List.mem_map.mp hy
    refine hA _ _ rfl ⟨ys ++ [chr c], by rw [List.map_append]; rfl, by rw [List.length_append, el]; rfl, fun y hy => ?_, by first | omega | (dsimp only; omega)⟩
    rcases List.mem_append.mp hy with hy | hy
    · exact hall y hy
    · rw [List.mem_singleton.mp hy]
      refine ⟨rfl, fun c' hc' => ?_⟩
      rw [List.mem_singleton.mp (show c' ∈ [c] from hc')]; exact hc
  · show 0 + (upto 0 ((i : Int)).toNat).length ≤ sizeLine
    unfold upto
    rw [List.length_map, List.length_range]; omega
  · rintro acc dr ⟨ys, rfl, el, hall, hdr⟩
    have eu : (upto 0 ((i : Int)).toNat).length = i := by unfold upto; rw [List.length_map, List.length_range]; omega
    rw [eu] at el hdr
    refine ⟨ys, txts_map ys, by rw [ones_sum fun y hy => (hall y hy).1]; show _ + _ * 0 ≤ _; omega, hq _ _ ?_ (fun c hc => ?_) (by first | omega | (dsimp only; omega))⟩
    · show (Txt.join "" ys).cps.toList.length ≤ t
      rw [join_flat, ones_flat fun y hy => (hall y hy).1]; omega
    · rw [join_flat] at hc
      obtain ⟨l, hl, hc⟩ := List.mem_flatten.mp hc
      obtain ⟨y, hy, rfl⟩ := List.mem_map.mp hl
      exact (hall y hy).2 c hc
end
end K44
namespace K44
open PySem PySem.Spec PyProof.Rows L2 Sw Dl Ss
/-! ### good data by bounds -/
structure Gd (a b : Nat) (d : D) : Prop where
  p : pureD d = true
  o : okD (toPy d) = true
  dp : (toPy d).depth ≤ a
  bk : (toPy d).bulk ≤ b
theorem Gd.good {a b : Nat} {d : D} (g : Gd a b d) (ha : a ≤ 60 := by decide) (hb : b ≤ 2 ^ 20 := by decide) : GoodD d := ⟨g.p, g.o, Nat.le_trans g.dp ha, Nat.le_trans g.bk hb⟩
theorem Gd.up {a b a' b' : Nat} {d : D} (g : Gd a b d) (ha : a ≤ a') (hb : b ≤ b') : Gd a' b' d := ⟨g.p, g.o, Nat.le_trans g.dp ha, Nat.le_trans g.bk hb⟩
theorem gd_all {a b : Nat} : ∀ {ds : List D}, (∀ d ∈ ds, Gd a b d) → pureDs ds = true ∧ okAll (toPys ds) = true ∧ PyData.depthAll (toPys ds) ≤ a ∧ PyData.bulkAll (toPys ds) ≤ (b + 1) * ds.length
  | [], _ => ⟨rfl, rfl, Nat.zero_le _, Nat.zero_le _⟩
  | d :: ds, h => by
    have g := h d (List.mem_cons_self ..)
    obtain ⟨h1, h2, h3, h4⟩ := gd_all fun x hx => h x (List.mem_cons_of_mem _ hx)
    refine ⟨by rw [pureDs, g.p, h1]; rfl, by rw [toPys, okAll, g.o, h2]; rfl, ?_, ?_⟩
    · rw [toPys, PyData.depthAll]; exact Nat.max_le.mpr ⟨g.dp, h3⟩
    · rw [toPys, PyData.bulkAll, List.length_cons, Nat.mul_succ]
      have := g.bk
      omega
theorem Gd.tup {a b : Nat} {ds : List D} (h : ∀ d ∈ ds, Gd a b d) : Gd (a + 1) ((b + 1) * ds.length) (.tup ds) := by
  obtain ⟨h1, h2, h3, h4⟩ := gd_all h
  exact ⟨h1, h2, by show (PyData.tuple (toPys ds)).depth ≤ _; rw [PyData.depth]; omega, h4⟩
theorem Gd.lst {a b : Nat} {ds : List D} (h : ∀ d ∈ ds, Gd a b d) : Gd (a + 1) ((b + 1) * ds.length) (.lst ds) := by
  obtain ⟨h1, h2, h3, h4⟩ := gd_all h
  exact ⟨h1, h2, by show (PyData.list (toPys ds)).depth ≤ _; rw [PyData.depth]; omega, h4⟩
theorem gd_int {i : Int} (h : i.natAbs < 10 ^ 7) : Gd 0 0 (.int i) := ⟨rfl, decide_eq_true h, Nat.le_refl _, Nat.le_refl _⟩
theorem gd_non : Gd 0 0 .non := ⟨rfl, rfl, Nat.le_refl _, Nat.le_refl _⟩
theorem gd_bl {b : Bool} : Gd 0 0 (.bl b) := ⟨rfl, rfl, Nat.le_refl _, Nat.le_refl _⟩
theorem gd_str {z : Str} {n : Nat} (h : asc z = true) (hl : z.length ≤ n) : Gd 0 n (.str z) := ⟨rfl, h, Nat.le_refl _, hl⟩
/-! ### rows -/
abbrev Row3 := PySem.W.T3 Int Str Int
def tkIS : TKn (Int × Str) where
  ks p := [.inl p.1, .inr p.2]
  toD _ := rfl
  ne p := ⟨_, _, rfl⟩
  inj a b e := by
    obtain ⟨a1, a2⟩ := a
    obtain ⟨b1, b2⟩ := b
    cases e; rfl
  dep _ := by simp [PySem.W.Datum.toD, PyData.depth, PyData.depthAll]
def tkISI : TKn Row3 where
  ks p := [.inl p.1, .inr p.2, .inl p.3]
  toD _ := rfl
  ne p := ⟨_, _, rfl⟩
  inj a b e := by
    obtain ⟨a1, a2, a3⟩ := a
    obtain ⟨b1, b2, b3⟩ := b
    cases e; rfl
  dep _ := by simp [PySem.W.Datum.toD, PyData.depth, PyData.depthAll]
theorem e_ISI : (fun p => eT tkISI p) = knISI.e := rfl
theorem e_IS : (fun p => eT tkIS p) = knIS.e := rfl
def rowD (r : Row3) : D := .tup [.int r.1, .str r.2, .int r.3]
/-- a row whose parts are small -/
structure SmR (r : Row3) : Prop where
  a : r.1.natAbs < 10 ^ 7
  b : asc r.2 = true ∧ r.2.length ≤ 1
  c : r.3.natAbs < 10 ^ 7
theorem gd_row {r : Row3} (s : SmR r) : Gd 1 6 (rowD r) := by
  refine Gd.up (Gd.tup (a := 0) (b := 1) fun d hd => ?_) (Nat.le_refl _) (by simp)
  rcases List.mem_cons.mp hd with rfl | hd
  · exact (gd_int s.a).up (Nat.le_refl _) (by simp)
  rcases List.mem_cons.mp hd with rfl | hd
  · exact gd_str s.b.1 s.b.2
  · rw [List.mem_singleton.mp hd]; exact (gd_int s.c).up (Nat.le_refl _) (by decide)
theorem gd_pair {i : Int} {z : Str} (h : i.natAbs < 10 ^ 7) (hz : asc z = true) (hl : z.length ≤ 1) : Gd 1 4 (.tup [.int i, .str z]) := by
  refine Gd.up (Gd.tup (a := 0) (b := 1) fun d hd => ?_) (Nat.le_refl _) (by simp)
  rcases List.mem_cons.mp hd with rfl | hd
  · exact (gd_int h).up (Nat.le_refl _) (by decide)
  · rw [List.mem_singleton.mp hd]; exact gd_str hz hl
theorem eq_pair (i j : Int) (x y : Str) : eqD (.tup [.int i, .str x]) (.tup [.int j, .str y]) = (decide (i = j) && decide (x = y)) := by
  show (PyData.eqvAll [.int i, .str x] [.int j, .str y]) = _
  simp only [PyData.eqvAll, PyData.eqv, Bool.and_true]
  rw [Bool.beq_eq_decide_eq, Bool.beq_eq_decide_eq]
/-! ### behind -/
def beh (as : List Row3) : List Nat → Int → D
  | [], s => .int s
  | c :: cs, s => match as.find? fun r => decide (r.1 = s) && decide (r.2 = chr c) with
    | none => .non
    | some r => beh as cs r.3
section
variable {P : Program} {w : World} {K : PySem.W.Frag} {mg : Str → Option Value} {base : Heap} {k : Dek} {dd ll : Addr}
def spBehind : DSp := fun ds n P => ∃ a b, ds = [a, b] ∧ ∃ (as : List Row3) (z : Str), a = .tup (as.map rowD) ∧ b = .str z ∧ (∀ r ∈ as, SmR r) ∧ as.length ≤ 1000 ∧ z.length ≤ 1000 ∧ asc z = true ∧ P (beh as z.cps.toList.reverse 0) n
theorem fm_find {α β : Type} (p : α → Bool) (f : α → β) (l : List α) : (l.filterMap fun a => if p a = true then some (f a) else none) = (l.filter p).map f := by
  induction l with
  | nil => rfl
  | cons a l ih =>
    rw [List.filterMap_cons]
    by_cases h : p a = true
    · rw [if_pos h, List.filter_cons_of_pos h, List.map_cons, ih]
    · rw [if_neg h, List.filter_cons_of_neg (by simpa using h), ih]
theorem pos_of {b : Bool} {y : D} {A : D → Prop} {B : Prop} (e : b = true) (h : match (if b = true then some y else none) with
  | some y => A y
  | none => B) : A y := by rw [if_pos e] at h; exact h
theorem neg_of {b : Bool} {y : D} {A : D → Prop} {B : Prop} (e : b = false) (h : match (if b = true then some y else none) with
  | some y => A y
  | none => B) : B := by rw [if_neg (by rw [e]; decide)] at h; exact h
theorem ok__law_behind (T : Tx K mg) : FnK P w K mg base 1 T.f__law_behind T.d__law_behind ["_law_lot", "_law_page_here"] k spBehind := by
  refine fnk_of T.F__law_behind sc__law_behind (fun ds n P h => ?_) fun cv A out s H E W ds n Q hr h => ?_
  · obtain ⟨_, _, rfl, _⟩ := h; rfl
  obtain ⟨x0, x1, rfl, as, z, rfl, rfl, hs, la, lz0, hz, hq⟩ := h
  have lz := line_big
  refine ⟨_, (dss_cons (ds_set (i := 2) sc__law_behind.nd rfl (by first | exact .inl rfl | exact .inr rfl) de_int)
      (dss_cons (ds_for PassesOwn.never rfl (di_any (de_back (dn 1))) (dg_name (i := 3) sc__law_behind.nd rfl (by first | exact .inl rfl | exact .inr rfl)) (dss_cons (ds_setLc (i := 4) (own := [("_law_row", 5)]) rfl sc__law_behind.nd rfl rfl rfl rfl rfl (di_any (dn 0)) (blkOk_by (N := ["_law_lot", "_law_page_here", "_law_spot", "_law_sign", "_law_some", "_law_row"]) (sc := defScope (top 23)) (by decide +kernel)) (fun _ _ _ _ _ _ => (dg_name (i := 5) sc__law_behind.nd rfl (by first | exact .inl rfl | exact .inr rfl))) (fun _ _ _ _ _ _ => (dts_one (dt_cmp (DOpB.op (do_eq hr.units)) (de_sl (dn 5) dp_none (dp_some de_int)) (de_tup (da_cons (dn 2) (da_cons (dn 3) da_nil)))))) (fun _ _ _ _ _ _ => (de_ix (dn 5) de_int (fun _ _ => rfl))))
      (dss_cons (ds_if (dt_cmp (DOpB.op (do_eq hr.units)) (dn 4) (DO.de (do_lst da_nil))) (dss_one (ds_ret de_non)) dss_nil)
      (dss_one (ds_set (i := 2) sc__law_behind.nd rfl (by first | exact .inl rfl | exact .inr rfl) (de_ix (dn 4) de_int (fun _ _ => rfl)))))))
      (dss_one (ds_ret (dn 2))))), ?_⟩
  conv => whnf
  refine ⟨by omega, ?_⟩
  conv => whnf
  refine forL_J (fun (ds : List D) (S : Ds) => ∃ (cs : List Nat) (spot : Int) (v3 v4 : Option Sl), ds = cs.map (fun c => .str (chr c)) ∧ S = ⟨[some (.v (.tup (as.map rowD))), some (.v (.str z)), some (.v (.int spot)), v3, v4, none], n⟩ ∧ spot.natAbs < 10 ^ 7 ∧ (∀ c ∈ cs, c < 128) ∧ Q (beh as cs spot) n) _ _ ?_ ?_
    ⟨_, 0, _, _, rfl, rfl, by decide, fun c hc => asc_lt hz c (by
      have : c ∈ z.cps.toList.reverse := by simpa [revS] using hc
      exact List.mem_reverse.mp this), by simpa [revS] using hq⟩
  · rintro d ds' S - ⟨cs, spot, v3, v4, e, rfl, hsp, hcs, hQ⟩ N hN
    cases cs with
    | nil => cases e
    | cons c cs =>
      injection e with e1 e2
      subst e1 e2
      have hc : c < 128 := hcs c (List.mem_cons_self ..)
      have hca : asc (chr c) = true := by
        show [c].all (fun c => decide (c < 128)) = true
        simp [hc]
      conv => whnf
      refine lcL_pure (fun d => match d with
        | .tup [.int i, .str l, .int j] => if (decide (i = spot) && decide (l = chr c)) = true then some (.int j) else none
        | _ => none) _ _ (fun d hd A B hAB => ?_) ?_ ?_
      · obtain ⟨r, hr', rfl⟩ := List.mem_map.mp hd
        have hs1 := hs r hr'
        conv => whnf
        refine ⟨by show 2 ≤ sizeLine; decide, ?_⟩
        conv => whnf
        refine ⟨(gd_pair hs1.a hs1.b.1 hs1.b.2).good, (gd_pair hsp hca (Nat.le_refl _)).good, ?_⟩
        have ee := eq_pair r.1 spot r.2 (chr c)
        refine onT_of (fun e => ?_) (fun e => ?_)
        · conv => whnf
          refine ⟨(fun z e => by cases e), ?_⟩
          conv => whnf
          refine pos_of (A := fun y => A y _) (ee.symm.trans e) (hAB _ ?_)
          rfl
        · conv => whnf
          refine neg_of (B := B _) (ee.symm.trans e) (hAB _ ?_)
          rfl
      · rw [List.length_map]; show 0 + _ ≤ _; omega
      · generalize hp : (fun r : Row3 => decide (r.1 = spot) && decide (r.2 = chr c)) = p at *
        have hfm : (List.map rowD as).filterMap (fun d => match d with
            | .tup [.int i, .str l, .int j] => if (decide (i = spot) && decide (l = chr c)) = true then some (D.int j) else none
            | _ => none) = (as.filter p).map fun r => .int r.3 := by
          rw [List.filterMap_map, ← fm_find p, ← hp]; rfl
        have hbe : beh as (c :: cs) spot = match as.find? p with
            | none => .non
            | some r => beh as cs r.3 := by rw [← hp]; rfl
        rw [hbe, ← List.head?_filter] at hQ
        rw [List.nil_append, hfm]
        have hsub : ∀ r ∈ as.filter p, SmR r := fun r h' => hs r (List.mem_filter.mp h').1
        have hlen : (as.filter p).length ≤ 1000 := Nat.le_trans (List.length_filter_le _ _) la
        generalize as.filter p = fs at *
        conv => whnf
        refine ⟨Nat.zero_le _, ?_⟩
        conv => whnf
        refine ⟨(Gd.lst (a := 0) (b := 0) fun d hd => ?_).good (by decide) (by rw [List.length_map]; omega), (Gd.lst (a := 0) (b := 0) (ds := []) fun d hd => by cases hd).good, ?_⟩
        · obtain ⟨r, hr', rfl⟩ := List.mem_map.mp hd
          exact gd_int (hsub r hr').c
        cases fs with
        | nil => (conv => whnf); exact hQ
        | cons r fs =>
          conv => whnf
          refine ⟨(fun z e => by cases e), ?_⟩
          rw [show ixD (D.lst (List.map (fun r : Row3 => D.int r.3) (r :: fs))) (D.int 0) = some (.int r.3) from atI_nat (j := 0) rfl]
          refine hN _ ⟨cs, r.3, _, _, rfl, rfl, (hsub r (List.mem_cons_self ..)).c, fun c' hc' => hcs c' (List.mem_cons_of_mem _ hc'), hQ⟩
  · rintro S ⟨cs, spot, v3, v4, e, rfl, hsp, hcs, hQ⟩
    cases cs with
    | nil => exact hQ
    | cons _ _ => cases e
end
end K44
namespace K44
open PySem PySem.Spec PyProof.Rows L2 Sw Dl Ss
/-! ### what is drawn -/
def Bef (r q : Row3) : Prop := r.1 < q.1 ∨ (r.1 = q.1 ∧ r.2 = chr 97 ∧ q.2 = chr 98)
structure Wh (m sz : Int) (as : List Row3) : Prop where
  rows : ∀ r ∈ as, 0 ≤ r.1 ∧ r.1 < m ∧ (r.2 = chr 97 ∨ r.2 = chr 98) ∧ 0 ≤ r.3 ∧ r.3 < sz
  asc : as.Pairwise Bef
  few : (as.length : Int) ≤ 2 * m
section
variable {P : Program} {w : World} {K : PySem.W.Frag} {mg : Str → Option Value} {base : Heap} {k : Dek} {dd ll : Addr}
def spDrawn (d : Addr) : DSp := fun ds n P => ∃ a, ds = [a] ∧ a = dkD d ∧ n < 900000 ∧ ∀ (sz : Int) (as : List Row3) (n' : Int), 1 ≤ sz → sz ≤ 5 → Wh sz sz as → n' ≤ n + 30 → P (.tup [.int sz, .tup (as.map rowD)]) n'
theorem Wh.more {h sz : Int} {as rs : List Row3} (w : Wh h sz as) (h0 : 0 ≤ h) (hr : ∀ r ∈ rs, r.1 = h ∧ (r.2 = chr 97 ∨ r.2 = chr 98) ∧ 0 ≤ r.3 ∧ r.3 < sz) (hp : rs.Pairwise Bef) (hl : rs.length ≤ 2) : Wh (h + 1) sz (as ++ rs) := by
  refine ⟨fun r hm => ?_, List.pairwise_append.mpr ⟨w.asc, hp, fun a ha b hb => .inl ?_⟩, ?_⟩
  · rcases List.mem_append.mp hm with hm | hm
    · obtain ⟨a, b, c⟩ := w.rows r hm
      exact ⟨a, by omega, c⟩
    · obtain ⟨a, b⟩ := hr r hm
      exact ⟨by omega, by omega, b⟩
  · have := (w.rows a ha).2.1
    have := (hr b hb).1
    omega
  · have := w.few
    rw [List.length_append]; omega
theorem ok__law_drawn (T : Tx K mg) : FnK P w K mg base 2 T.f__law_drawn T.d__law_drawn ["_law_deck_here"] (deckD dd ll) (spDrawn dd) := by
  refine fnk_of T.F__law_drawn sc__law_drawn (fun ds n P h => ?_) fun cv A out s H E W ds n Q hr h => ?_
  · obtain ⟨_, rfl, _⟩ := h; rfl
  obtain ⟨x0, rfl, rfl, hn, hq⟩ := h
  have lz := line_big
  refine ⟨_, (dss_cons (ds_par3C (i := 1) (j := 2) (l := 3) rfl sc__law_drawn.nd rfl rfl rfl (by first | exact .inl rfl | exact .inr rfl) (by first | exact .inl rfl | exact .inr rfl) (by first | exact .inl rfl | exact .inr rfl) (by first | exact .inl rfl | exact .inr rfl) (by first | exact .inl rfl | exact .inr rfl) (by first | exact .inl rfl | exact .inr rfl) (de_op do_op_add de_int (de_callK (ok__law_draw T) (hr.mono (by first | decide | omega)) (by rfl) T.g__law_draw T.F__law_draw.kp (bd__law_draw T) (da_cons (dn 0) (da_cons de_int da_nil)))) (fun _ => (de_op do_op_add de_int (de_callK (ok__law_draw T) (hr.mono (by first | decide | omega)) (by rfl) T.g__law_draw T.F__law_draw.kp (bd__law_draw T) (da_cons (dn 0) (da_cons de_int da_nil))))))
      (dss_cons (ds_for PassesOwn.never rfl (di_range1 (by rfl) T.b_range (da_cons (dn 1) da_nil)) (dg_name (i := 4) sc__law_drawn.nd rfl (by first | exact .inl rfl | exact .inr rfl)) (dss_one (ds_expr (de_extend (pv 2) (DO.de (do_lc (own := [("_law_sign", 5)]) rfl sc__law_drawn.nd (di_any de_str) (blkOk_by (N := ["_law_deck_here", "_law_size", "_law_lot", "_law_often", "_law_here", "_law_sign"]) (sc := defScope (top 24)) (by decide +kernel)) (fun _ _ _ _ _ _ => (dg_name (i := 5) sc__law_drawn.nd rfl (by first | exact .inl rfl | exact .inr rfl))) (fun _ _ _ _ _ _ => (dts_one (dt_cmp (DOpB.op (do_eq hr.units)) (de_callK (ok__law_draw T) (hr.mono (by first | decide | omega)) (by rfl) T.g__law_draw T.F__law_draw.kp (bd__law_draw T) (da_cons (dn 0) (da_cons (dn 3) da_nil))) de_int))) (fun _ _ _ _ _ _ => (de_tup (da_cons (dn 4) (da_cons (dn 5) (da_cons (de_callK (ok__law_draw T) (hr.mono (by first | decide | omega)) (by rfl) T.g__law_draw T.F__law_draw.kp (bd__law_draw T) (da_cons (dn 0) (da_cons (dn 1) da_nil))) da_nil))))))) (fun ho ha => pe_bm PySem.F.plainAttrs_list PySem.F.slot_list_extend PySem.F.type_list_extend mt_extend ho ha)))))
      (dss_one (ds_ret (de_tup (da_cons (dn 1) (da_cons (de_callTy dc_tuple (by rfl) T.b_tuple (by decide +kernel) (da_cons (dn 2) da_nil)) da_nil))))))), ?_⟩
  conv => whnf
  refine ⟨5, rfl, by first | omega | (dsimp only; omega), by decide, by decide, fun s0 hs0 hs1 => ?_⟩
  conv => whnf
  refine ⟨4, rfl, by first | omega | (dsimp only; omega), by decide, by decide, fun o0 ho0 ho1 => ?_⟩
  conv => whnf
  obtain ⟨m, em⟩ : ∃ m : Nat, 1 + s0 = (m : Int) := ⟨(1 + s0).toNat, by omega⟩
  refine ⟨by omega, ?_⟩
  have hm1 : 1 ≤ m := by omega
  have hm5 : m ≤ 5 := by omega
  rw [em]
  have el : (upto 0 ((m : Int)).toNat).length = m := by unfold upto; rw [List.length_map, List.length_range]; omega
  refine forL_J (fun (ds : List D) (S : Ds) => ds.length ≤ m ∧ ∃ (as : List Row3) (v4 : Option Sl) (dr : Int), S = ⟨[some (.v (dkD dd)), some (.v (.int m)), some (.o (.lst (as.map rowD))), some (.v (.int (1 + o0))), v4, none], dr⟩ ∧ Wh ((m : Int) - ds.length) m as ∧ dr ≤ n + 2 + 4 * ((m : Int) - ds.length)) _ _ ?_ ?_
    ⟨by rw [el]; exact Nat.le_refl _, [], _, _, rfl, by rw [el]; exact ⟨(fun r h => by cases h), .nil, by show (0 : Int) ≤ _; omega⟩, by rw [el]; first | omega | (dsimp only; omega)⟩
  · rintro d ds' S ⟨pre, epre⟩ ⟨hdl, as, v4, dr, rfl, wh, hdr⟩ N hN
    rw [List.length_cons] at hdl wh hdr
    obtain ⟨h, rfl, eh⟩ : ∃ h : Int, d = .int h ∧ h = (m : Int) - (ds'.length + 1) := by
      have h1 := congrArg List.length epre
      rw [el, List.length_append, List.length_cons] at h1
      have h2 : (upto 0 ((m : Int)).toNat)[pre.length]? = some d := by rw [epre]; simp
      unfold upto at h2
      rw [List.getElem?_map, List.getElem?_range (by omega), Option.map_some] at h2
      exact ⟨_, (Option.some.inj h2).symm, by omega⟩
    have hh : 0 ≤ h := by omega
    have wh : Wh h m as := by
      have : (m : Int) - ((ds'.length + 1 : Nat) : Int) = h := by omega
      rw [this] at wh; exact wh
    have fin : ∀ (rs : List Row3) (dr' : Int) (v : Option Sl), (∀ r ∈ rs, r.1 = h ∧ (r.2 = chr 97 ∨ r.2 = chr 98) ∧ 0 ≤ r.3 ∧ r.3 < m) → rs.Pairwise Bef → rs.length ≤ 2 → dr' ≤ dr + 4 → N ⟨[some (.v (dkD dd)), some (.v (.int m)), some (.o (.lst (as.map rowD ++ rs.map rowD))), some (.v (.int (1 + o0))), v, none], dr'⟩ := fun rs dr' v h1 h2 h3 h4 => by
      refine hN _ ⟨by omega, as ++ rs, v, dr', by rw [List.map_append], ?_, by omega⟩
      have : (m : Int) - (ds'.length : Nat) = h + 1 := by omega
      rw [this]
      exact wh.more hh h1 h2 h3
    have hal : as.length ≤ 10 := by have := wh.few; omega
    conv => whnf
    refine ⟨rfl, ?_⟩
    conv => whnf
    refine ⟨_, rfl, by first | omega | (dsimp only; omega), by omega, by omega, fun j0 hj00 hj01 => ?_⟩
    conv => whnf
    refine onT_of (fun _ => ?_) (fun _ => ?_)
    · conv => whnf
      refine ⟨_, rfl, by first | omega | (dsimp only; omega), by omega, by omega, fun t0 ht00 ht01 => ?_⟩
      conv => whnf
      refine ⟨by show 3 ≤ sizeLine; decide, ?_⟩
      conv => whnf
      refine ⟨by show 0 < sizeLine; decide, ?_⟩
      conv => whnf
      refine ⟨_, rfl, by first | omega | (dsimp only; omega), by omega, by omega, fun j1 hj10 hj11 => ?_⟩
      conv => whnf
      refine onT_of (fun _ => ?_) (fun _ => ?_)
      · conv => whnf
        refine ⟨_, rfl, by first | omega | (dsimp only; omega), by omega, by omega, fun t1 ht10 ht11 => ?_⟩
        conv => whnf
        refine ⟨by show 3 ≤ sizeLine; decide, ?_⟩
        conv => whnf
        refine ⟨by show 1 < sizeLine; decide, ?_⟩
        conv => whnf
        refine ⟨by rw [List.length_map]; show _ + 2 ≤ sizeLine; omega, ?_⟩
        exact fin [⟨h, chr 97, t0⟩, ⟨h, chr 98, t1⟩] _ _ (by intro r h'; simp only [List.mem_cons, List.not_mem_nil, or_false] at h'; rcases h' with rfl | rfl <;> refine ⟨rfl, ?_, by assumption, by assumption⟩ <;> first | exact .inl rfl | exact .inr rfl) (by simp [Bef]) (by simp) (by first | omega | (dsimp only; omega))
      · conv => whnf
        refine ⟨by rw [List.length_map]; show _ + 1 ≤ sizeLine; omega, ?_⟩
        exact fin [⟨h, chr 97, t0⟩] _ _ (by intro r h'; simp only [List.mem_cons, List.not_mem_nil, or_false] at h'; subst h' <;> refine ⟨rfl, ?_, by assumption, by assumption⟩ <;> first | exact .inl rfl | exact .inr rfl) (by simp) (by simp) (by first | omega | (dsimp only; omega))
    · conv => whnf
      refine ⟨_, rfl, by first | omega | (dsimp only; omega), by omega, by omega, fun j1 hj10 hj11 => ?_⟩
      conv => whnf
      refine onT_of (fun _ => ?_) (fun _ => ?_)
      · conv => whnf
        refine ⟨_, rfl, by first | omega | (dsimp only; omega), by omega, by omega, fun t1 ht10 ht11 => ?_⟩
        conv => whnf
        refine ⟨by show 3 ≤ sizeLine; decide, ?_⟩
        conv => whnf
        refine ⟨by show 0 < sizeLine; decide, ?_⟩
        conv => whnf
        refine ⟨by rw [List.length_map]; show _ + 1 ≤ sizeLine; omega, ?_⟩
        exact fin [⟨h, chr 98, t1⟩] _ _ (by intro r h'; simp only [List.mem_cons, List.not_mem_nil, or_false] at h'; subst h' <;> refine ⟨rfl, ?_, by assumption, by assumption⟩ <;> first | exact .inl rfl | exact .inr rfl) (by simp) (by simp) (by first | omega | (dsimp only; omega))
      · conv => whnf
        refine ⟨by rw [List.length_map]; show _ + 0 ≤ sizeLine; omega, ?_⟩
        exact fin [] _ _ (by intro r h'; cases h') (by exact .nil) (by simp) (by first | omega | (dsimp only; omega))
  · rintro S ⟨_, as, v4, dr, rfl, wh, hdr⟩
    conv => whnf
    refine ⟨by show 2 ≤ sizeLine; decide, ?_⟩
    refine hq _ as _ (by omega) (by omega) ?_ (by dsimp only; omega)
    simpa using wh
end
end K44
namespace K44
open PySem PySem.Spec PyProof.Rows L2 Sw Dl Ss
/-! ### rows in order -/
structure VR (r : Row3) : Prop where
  a0 : 0 ≤ r.1
  a1 : r.1 < 1000
  b : ∃ c, r.2 = chr c ∧ 97 ≤ c ∧ c ≤ 122
  c0 : 0 ≤ r.3
  c1 : r.3 < 1000
def cd (z : Str) : Int := ((z.cps.toList.headD 0 : Nat) : Int)
def ck (r : Row3) : Int := r.1 * 256 + cd r.2
def rk (r : Row3) : Int := ck r * 1000 + r.3
theorem cd_chr (c : Nat) : cd (chr c) = c := rfl
theorem chr_lt (c d : Nat) : PySem.W.DatumOrd.lt (chr c) (chr d) = decide (c < d) := by
  show decide ([c] < [d]) = _
  have : ([c] < [d]) ↔ c < d := by simp [List.cons_lt_cons_iff]
  simp only [this]
theorem chr_inj {c d : Nat} : chr c = chr d ↔ c = d := ⟨fun e => by injection e with e; injection e with e; injection e, fun e => by rw [e]⟩
theorem lt3 {r q : Row3} (h : VR r) (g : VR q) : PySem.W.DatumOrd.lt r q = decide (rk r < rk q) := by
  obtain ⟨a0, a1, ⟨c, ec, c2, c3⟩, c0, c1⟩ := h
  obtain ⟨b0, b1, ⟨d, ed, d2, d3⟩, d0, d1⟩ := g
  obtain ⟨r1, r2, r3⟩ := r
  obtain ⟨q1, q2, q3⟩ := q
  dsimp only at *
  subst ec ed
  show (if r1 = q1 then (if chr c = chr d then decide (r3 < q3) else PySem.W.DatumOrd.lt (chr c) (chr d)) else decide (r1 < q1)) = decide ((r1 * 256 + (c : Int)) * 1000 + r3 < (q1 * 256 + (d : Int)) * 1000 + q3)
  rw [chr_lt]
  by_cases e1 : r1 = q1
  · rw [if_pos e1]
    by_cases e2 : c = d
    · rw [if_pos (chr_inj.mpr e2)]
      exact decide_eq_decide.mpr (by omega)
    · rw [if_neg (fun e => e2 (chr_inj.mp e))]
      exact decide_eq_decide.mpr (by omega)
  · rw [if_neg e1]
    exact decide_eq_decide.mpr (by omega)
theorem lt2 {r q : Row3} (h : VR r) (g : VR q) : PySem.W.DatumOrd.lt ((r.1, r.2) : Int × Str) (q.1, q.2) = decide (ck r < ck q) := by
  obtain ⟨a0, a1, ⟨c, ec, c2, c3⟩, c0, c1⟩ := h
  obtain ⟨b0, b1, ⟨d, ed, d2, d3⟩, d0, d1⟩ := g
  obtain ⟨r1, r2, r3⟩ := r
  obtain ⟨q1, q2, q3⟩ := q
  dsimp only at *
  subst ec ed
  show (if r1 = q1 then PySem.W.DatumOrd.lt (chr c) (chr d) else decide (r1 < q1)) = decide (r1 * 256 + (c : Int) < q1 * 256 + (d : Int))
  rw [chr_lt]
  by_cases e1 : r1 = q1
  · rw [if_pos e1]; exact decide_eq_decide.mpr (by omega)
  · rw [if_neg e1]; exact decide_eq_decide.mpr (by omega)
theorem rk_inj {r q : Row3} (h : VR r) (g : VR q) (e : rk r = rk q) : r = q := by
  obtain ⟨a0, a1, ⟨c, ec, c2, c3⟩, c0, c1⟩ := h
  obtain ⟨b0, b1, ⟨d, ed, d2, d3⟩, d0, d1⟩ := g
  obtain ⟨r1, r2, r3⟩ := r
  obtain ⟨q1, q2, q3⟩ := q
  dsimp only at *
  subst ec ed
  have e : (r1 * 256 + (c : Int)) * 1000 + r3 = (q1 * 256 + (d : Int)) * 1000 + q3 := e
  have e1 : r1 = q1 := by omega
  have e2 : c = d := by omega
  have e3 : r3 = q3 := by omega
  rw [e1, e2, e3]
theorem ck_inj {r q : Row3} (h : VR r) (g : VR q) : ck r = ck q ↔ ((r.1, r.2) : Int × Str) = (q.1, q.2) := by
  obtain ⟨a0, a1, ⟨c, ec, c2, c3⟩, c0, c1⟩ := h
  obtain ⟨b0, b1, ⟨d, ed, d2, d3⟩, d0, d1⟩ := g
  obtain ⟨r1, r2, r3⟩ := r
  obtain ⟨q1, q2, q3⟩ := q
  dsimp only at *
  subst ec ed
  show r1 * 256 + (c : Int) = q1 * 256 + (d : Int) ↔ _
  constructor
  · intro e
    have e1 : r1 = q1 := by omega
    have e2 : c = d := by omega
    rw [e1, e2]
  · intro e
    injection e with e1 e2
    rw [e1, chr_inj.mp e2]
theorem ck_rk {r q : Row3} (h : VR r) (g : VR q) : (ck r < ck q → rk r < rk q) ∧ (rk r ≤ rk q → ck r ≤ ck q) := by
  have := h.c0
  have := h.c1
  have := g.c0
  have := g.c1
  unfold rk
  constructor <;> intro _ <;> omega
/-- neighbours in order: all in order -/
theorem asc_pw {α : Type} [DecidableEq α] [PySem.W.DatumOrd α] {f : α → Int} : ∀ {as : List α}, (∀ a ∈ as, ∀ b ∈ as, PySem.W.DatumOrd.lt a b = decide (f a < f b)) → (ascB as = true ↔ as.Pairwise fun a b => f a < f b)
  | [], _ => by simp [ascB]
  | [a], _ => by simp [ascB]
  | a :: b :: r, h => by
    have ih := asc_pw (f := f) (as := b :: r) fun x hx y hy => h x (List.mem_cons_of_mem _ hx) y (List.mem_cons_of_mem _ hy)
    have e : ascB (a :: b :: r) = (PySem.W.DatumOrd.lt a b && ascB (b :: r)) := by
      unfold ascB
      show (List.range (r.length + 1)).all _ = _
      rw [List.range_succ_eq_map, List.all_cons, List.all_map]
      rfl
    rw [e, Bool.and_eq_true, ih, h a (by simp) b (by simp), decide_eq_true_eq, List.pairwise_cons (a := a)]
    constructor
    · rintro ⟨h1, h2⟩
      refine ⟨fun c hc => ?_, h2⟩
      rcases List.mem_cons.mp hc with rfl | hc
      · exact h1
      · exact Int.lt_trans h1 ((List.pairwise_cons.mp h2).1 c hc)
    · rintro ⟨h1, h2⟩
      exact ⟨h1 b (by simp), h2⟩
/-- two ascending lists with the same members -/
theorem sorted_same {α : Type} {f : α → Int} : ∀ {as bs : List α}, (∀ a ∈ as, ∀ b ∈ bs, f a = f b → a = b) → as.Pairwise (fun a b => f a < f b) → bs.Pairwise (fun a b => f a < f b) → (∀ x, x ∈ as ↔ x ∈ bs) → as = bs
  | [], [], _, _, _, _ => rfl
  | [], b :: bs, _, _, _, h => by have := (h b).mpr (by simp); cases this
  | a :: as, [], _, _, _, h => by have := (h a).mp (by simp); cases this
  | a :: as, b :: bs, inj, pa, pb, h => by
    obtain ⟨pa1, pa2⟩ := List.pairwise_cons.mp pa
    obtain ⟨pb1, pb2⟩ := List.pairwise_cons.mp pb
    have e : a = b := by
      have h1 := (h a).mp (by simp)
      have h2 := (h b).mpr (by simp)
      rcases List.mem_cons.mp h1 with e | h1
      · exact e
      rcases List.mem_cons.mp h2 with e | h2
      · exact e.symm
      have := pa1 b h2
      have := pb1 a h1
      omega
    subst e
    rw [sorted_same (fun x hx y hy => inj x (List.mem_cons_of_mem _ hx) y (List.mem_cons_of_mem _ hy)) pa2 pb2 fun x => ?_]
    constructor
    · intro hx
      rcases List.mem_cons.mp ((h x).mp (List.mem_cons_of_mem _ hx)) with e | hx'
      · subst e; exact absurd (pa1 _ hx) (Int.lt_irrefl _)
      · exact hx'
    · intro hx
      rcases List.mem_cons.mp ((h x).mpr (List.mem_cons_of_mem _ hx)) with e | hx'
      · subst e; exact absurd (pb1 _ hx) (Int.lt_irrefl _)
      · exact hx'
theorem sub_len {α : Type} [DecidableEq α] : ∀ {kb ks : List α}, kb.Nodup → (∀ x ∈ kb, x ∈ ks) → kb.length ≤ ks.length
  | [], _, _, _ => Nat.zero_le _
  | b :: r, ks, nd, h => by
    obtain ⟨n1, n2⟩ := List.nodup_cons.mp nd
    have hb := h b (by simp)
    have := sub_len (kb := r) (ks := ks.erase b) n2 fun x hx => (List.mem_erase_of_ne (fun e : x = b => n1 (by rw [← e]; exact hx))).mpr (h x (List.mem_cons_of_mem _ hx))
    rw [List.length_erase_of_mem hb] at this
    have : 0 < ks.length := List.length_pos_of_mem hb
    rw [List.length_cons]; omega
theorem nodup_len {α : Type} [DecidableEq α] : ∀ {ks kb : List α}, kb.Nodup → (∀ x, x ∈ kb ↔ x ∈ ks) → (kb.length = ks.length ↔ ks.Nodup)
  | [], kb, nd, h => by
    have : kb = [] := List.eq_nil_iff_forall_not_mem.mpr fun x hx => by have := (h x).mp hx; cases this
    subst this; simp
  | k :: t, kb, nd, h => by
    have hk : k ∈ kb := (h k).mpr (by simp)
    constructor
    · intro e
      have kt : k ∉ t := fun hm => by
        have := sub_len (ks := t) nd fun x hx => (List.mem_cons.mp ((h x).mp hx)).elim (fun e => e ▸ hm) id
        rw [List.length_cons] at e; omega
      refine List.nodup_cons.mpr ⟨kt, (nodup_len (ks := t) (kb := kb.erase k) (nd.erase k) fun x => ?_).mp (by rw [List.length_erase_of_mem hk, e]; rfl)⟩
      rw [nd.mem_erase_iff, h x, List.mem_cons]
      exact ⟨fun ⟨a, b⟩ => b.elim (fun e => absurd e a) id, fun hx => ⟨fun e => kt (e ▸ hx), .inr hx⟩⟩
    · intro nk
      exact ((List.perm_ext_iff_of_nodup nd nk).mpr h).length_eq
def t2 (r : Row3) : Int × Str := (r.1, r.2)
theorem due_iff {as bs : List Row3} {kb : List (Int × Str)} (v : ∀ r ∈ as, VR r) (nb : bs.Nodup) (mb : ∀ b, b ∈ bs ↔ b ∈ as) (pb : bs.Pairwise fun x y => PySem.W.DatumOrd.lt y x = false) (nk : kb.Nodup) (mk : ∀ b, b ∈ kb ↔ b ∈ as.map t2) :
    (decide (as = bs) && decide (kb.length = as.length)) = (ascB as && ascB (as.map t2)) := by
  have vb : ∀ r ∈ bs, VR r := fun r hr => v r ((mb r).mp hr)
  have l3 := asc_pw (f := rk) (as := as) fun a ha b hb => lt3 (v a ha) (v b hb)
  have l2 : ascB (as.map t2) = true ↔ as.Pairwise fun a b => ck a < ck b := by
    have := asc_pw (f := fun p : Int × Str => p.1 * 256 + cd p.2) (as := as.map t2) fun a ha b hb => by
      obtain ⟨r, hr, rfl⟩ := List.mem_map.mp ha
      obtain ⟨q, hq, rfl⟩ := List.mem_map.mp hb
      exact lt2 (v r hr) (v q hq)
    rw [this, List.pairwise_map]; rfl
  have pb' : bs.Pairwise fun a b => rk a < rk b := by
    have h1 : bs.Pairwise fun a b => a ≠ b := nb
    refine List.Pairwise.imp_of_mem ?_ (h1.and pb)
    rintro a b ha hb ⟨h1, h2⟩
    rw [lt3 (vb b hb) (vb a ha)] at h2
    have h2 := of_decide_eq_false h2
    rcases Int.lt_trichotomy (rk a) (rk b) with h | h | h
    · exact h
    · exact absurd (rk_inj (vb a ha) (vb b hb) h) h1
    · exact absurd h h2
  have lk : kb.length = as.length ↔ (as.map t2).Nodup := by
    have := nodup_len nk mk
    rwa [List.length_map] at this
  rw [Bool.eq_iff_iff, Bool.and_eq_true, Bool.and_eq_true, decide_eq_true_eq, decide_eq_true_eq, l3, l2, lk]
  constructor
  · rintro ⟨rfl, h2⟩
    refine ⟨pb', ?_⟩
    have h3 : as.Pairwise fun a b => t2 a ≠ t2 b := List.pairwise_map.mp h2
    refine List.Pairwise.imp_of_mem ?_ (h3.and pb')
    rintro a b ha hb ⟨h4, h5⟩
    have := (ck_rk (v a ha) (v b hb)).2 (by omega)
    have : ck a ≠ ck b := fun e => h4 ((ck_inj (v a ha) (v b hb)).mp e)
    omega
  · rintro ⟨h1, h2⟩
    refine ⟨sorted_same (fun a ha b hb => rk_inj (v a ha) (vb b hb)) h1 pb' fun x => (mb x).symm, ?_⟩
    refine List.pairwise_map.mpr (List.Pairwise.imp_of_mem ?_ h2)
    intro a b ha hb h3 e
    have := (ck_inj (v a ha) (v b hb)).mpr e
    omega
end K44
namespace K44
open PySem PySem.Spec PyProof.Rows L2 Sw Dl Ss
/-! ### what is due -/
def due (x y : D) : Str := match x with
  | .int s => if decide (1 ≤ s) && decide (s ≤ 999) then (if isMoves s y then "" else "moves") else "states"
  | _ => "states"
theorem alph_mem (c : Nat) : decide (c ∈ ("abcdefghijklmnopqrstuvwxyz" : Str).cps.toList) = az c := by
  have e : ("abcdefghijklmnopqrstuvwxyz" : Str).cps.toList = (List.range 26).map (97 + ·) := by decide
  rw [e]
  unfold az
  rw [← Bool.decide_and]
  refine decide_eq_decide.mpr ⟨fun h => ?_, fun ⟨h1, h2⟩ => ?_⟩
  · obtain ⟨i, hi, rfl⟩ := List.mem_map.mp h
    have := List.mem_range.mp hi
    omega
  · exact List.mem_map.mpr ⟨c - 97, List.mem_range.mpr (by omega), by omega⟩
theorem str_beqd (a b : Str) : (a == b) = decide (a = b) := Bool.beq_eq_decide_eq a b
theorem eqv_row (r q : Row3) : PyData.eqv (toPy (rowD r)) (toPy (rowD q)) = decide (r = q) := by
  obtain ⟨r1, r2, r3⟩ := r
  obtain ⟨q1, q2, q3⟩ := q
  show PyData.eqvAll [.int r1, .str r2, .int r3] [.int q1, .str q2, .int q3] = _
  simp only [PyData.eqvAll, PyData.eqv, Bool.and_true]
  rw [Bool.beq_eq_decide_eq, Bool.beq_eq_decide_eq, Bool.beq_eq_decide_eq, Bool.eq_iff_iff]
  simp only [Bool.and_eq_true, decide_eq_true_eq, PySem.W.T3.mk.injEq]
theorem eqv_rows : ∀ as bs : List Row3, PyData.eqvAll (toPys (as.map rowD)) (toPys (bs.map rowD)) = decide (as = bs)
  | [], [] => rfl
  | [], _ :: _ => by simp [toPys, PyData.eqvAll]
  | _ :: _, [] => by simp [toPys, PyData.eqvAll]
  | a :: as, b :: bs => by
    rw [List.map_cons, List.map_cons, toPys, toPys, PyData.eqvAll, eqv_row, eqv_rows as bs, Bool.eq_iff_iff]
    simp
theorem eqD_rows (as bs : List Row3) : eqD (.lst (as.map rowD)) (.lst (bs.map rowD)) = decide (as = bs) := eqv_rows as bs
theorem vr_sm {r : Row3} (v : VR r) : SmR r := by
  obtain ⟨c, e, h1, h2⟩ := v.b
  have := v.a0
  have := v.a1
  have := v.c0
  have := v.c1
  refine ⟨by omega, ⟨?_, by rw [e]; exact Nat.le_refl _⟩, by omega⟩
  rw [e]
  show [c].all (fun c => decide (c < 128)) = true
  have : c < 128 := by omega
  simp [this]
theorem move_vr {m : Int} {d : D} (hm : m ≤ 999) (h : isMove m d = true) : ∃ r, d = rowD r ∧ VR r ∧ t3Of d = r := by
  obtain ⟨i, z, j, rfl, h1, h2, ⟨c, rfl, hc⟩, h3, h4⟩ := move_t3 h
  obtain ⟨c1, c2⟩ := Bool.and_eq_true_iff.mp (show (decide (97 ≤ c) && decide (c ≤ 122)) = true from hc)
  exact ⟨⟨i, ⟨#[c]⟩, j⟩, rfl, ⟨h1, by show i < 1000; omega, ⟨c, rfl, of_decide_eq_true c1, of_decide_eq_true c2⟩, h3, by show j < 1000; omega⟩, rfl⟩
theorem moves_vr {m : Int} (hm : m ≤ 999) : ∀ {ds : List D}, (∀ d ∈ ds, isMove m d = true) → ∃ as : List Row3, ds = as.map rowD ∧ (∀ r ∈ as, VR r) ∧ ds.map t3Of = as
  | [], _ => ⟨[], rfl, (fun r h => by cases h), rfl⟩
  | d :: ds, h => by
    obtain ⟨r, e1, e2, e3⟩ := move_vr hm (h d (by simp))
    obtain ⟨as, f1, f2, f3⟩ := moves_vr hm fun x hx => h x (List.mem_cons_of_mem _ hx)
    exact ⟨r :: as, by rw [e1, f1]; rfl, fun q hq => (List.mem_cons.mp hq).elim (fun e => e ▸ e2) (f2 q), by rw [List.map_cons, e3, f3]⟩
section
variable {P : Program} {w : World} {K : PySem.W.Frag} {mg : Str → Option Value} {base : Heap} {k : Dek} {dd ll : Addr}
def spDue : DSp := fun ds n P => ∃ x y, ds = [x, y] ∧ anyM 62 x = true ∧ anyM 62 y = true ∧ P (.str (due x y)) n
theorem ex_nodup {α : Type} [DecidableEq α] : ∀ l : List α, ∃ kb : List α, kb.Nodup ∧ ∀ b, b ∈ kb ↔ b ∈ l
  | [] => ⟨[], .nil, fun b => Iff.rfl⟩
  | a :: l => by
    obtain ⟨kb, h1, h2⟩ := ex_nodup l
    by_cases h : a ∈ kb
    · exact ⟨kb, h1, fun b => by rw [h2, List.mem_cons]; exact ⟨.inr, fun h' => h'.elim (fun e => by rw [e]; exact (h2 a).mp h) id⟩⟩
    · exact ⟨a :: kb, List.nodup_cons.mpr ⟨h, h1⟩, fun b => by rw [List.mem_cons, List.mem_cons, h2]⟩
theorem ok__law_due (T : Tx K mg) : FnK P w K mg base 2 T.f__law_due T.d__law_due ["_law_size", "_law_lot"] k spDue := by
  refine fnk_of T.F__law_due sc__law_due (fun ds n P h => ?_) fun cv A out s H E W ds n Q hr h => ?_
  · obtain ⟨_, _, rfl, _⟩ := h; rfl
  obtain ⟨x, y, rfl, hx, hy, hq⟩ := h
  have lz := line_big
  refine ⟨_, (dss_cons (ds_if (dt_w (dw_or (dt_not (dt_val (de_isi dc_isInt (by rfl) T.b_isinstance (by decide +kernel) (dn 0) (dty (T := "int") (by rfl) T.b_int (by decide +kernel))))) (dw_or (dt_val (de_isi dc_isBool (by rfl) T.b_isinstance (by decide +kernel) (dn 0) (dty (T := "bool") (by rfl) T.b_bool (by decide +kernel)))) (dw_or1 (dt_not (dt_chain do_le do_le de_int (dn 0) de_int)))))) (dss_one (ds_ret de_str)) dss_nil)
      (dss_cons (ds_if (dt_not (dt_val (de_isi dc_isTup (by rfl) T.b_isinstance (by decide +kernel) (dn 1) (dty (T := "tuple") (by rfl) T.b_tuple (by decide +kernel))))) (dss_one (ds_ret de_str)) dss_nil)
      (dss_cons (ds_for PassesOwn.never rfl (di_any (dn 1)) (dg_name (i := 2) sc__law_due.nd rfl (by first | exact .inl rfl | exact .inr rfl)) (dss_cons (ds_if (dt_w (dw_or (dt_not (dt_val (de_isi dc_isTup (by rfl) T.b_isinstance (by decide +kernel) (dn 2) (dty (T := "tuple") (by rfl) T.b_tuple (by decide +kernel))))) (dw_or (dt_cmp (DOpB.op (do_ne hr.units)) (de_callB dc_len (by rfl) T.b_len (by decide +kernel) (da_cons (dn 2) da_nil)) de_int) (dw_or1 (dt_not (dt_val (de_callK (ok__law_is_whole T) (hr.mono (by first | decide | omega)) (by rfl) T.g__law_is_whole T.F__law_is_whole.kp (bd__law_is_whole T) (da_cons (de_ix (dn 2) de_int (fun _ _ => rfl)) (da_cons (dn 0) da_nil))))))))) (dss_one (ds_ret de_str)) dss_nil)
      (dss_cons (ds_if (dt_w (dw_or (dt_not (dt_val (de_isi dc_isStr (by rfl) T.b_isinstance (by decide +kernel) (de_ix (dn 2) de_int (fun _ _ => rfl)) (dty (T := "str") (by rfl) T.b_str (by decide +kernel))))) (dw_or (dt_cmp (DOpB.op (do_ne hr.units)) (de_callB dc_len (by rfl) T.b_len (by decide +kernel) (da_cons (de_ix (dn 2) de_int (fun _ _ => rfl)) da_nil)) de_int) (dw_or1 (dt_cmp (DOpB.op do_notin_sign) (de_ix (dn 2) de_int (fun _ _ => rfl)) de_str))))) (dss_one (ds_ret de_str)) dss_nil)
      (dss_one (ds_if (dt_not (dt_val (de_callK (ok__law_is_whole T) (hr.mono (by first | decide | omega)) (by rfl) T.g__law_is_whole T.F__law_is_whole.kp (bd__law_is_whole T) (da_cons (de_ix (dn 2) de_int (fun _ _ => rfl)) (da_cons (dn 0) da_nil))))) (dss_one (ds_ret de_str)) dss_nil)))))
      (dss_cons (ds_setLc (i := 3) (own := [("_law_row", 2)]) rfl sc__law_due.nd rfl rfl rfl rfl rfl (di_any (dn 1)) (blkOk_by (N := ["_law_size", "_law_lot", "_law_row", "_law_keys"]) (sc := defScope (top 21)) (by decide +kernel)) (fun _ _ _ _ _ _ => (dg_name (i := 2) sc__law_due.nd rfl (by first | exact .inl rfl | exact .inr rfl))) (fun _ _ _ _ _ _ => dts_nil) (fun _ _ _ _ _ _ => (de_sl (dn 2) dp_none (dp_some de_int))))
      (dss_one (ds_ret (de_if (dt_w (dw_and (dt_cmp (DOpB.op (do_eq hr.units)) (DO.de (do_callTy dc_list (by rfl) T.b_list (by decide +kernel) (da_cons (dn 1) da_nil))) (DO.de (do_sortT tkISI rfl hr.units (by rfl) T.b_sorted (by rfl) T.b_set (dn 1)))) (dw_and1 (dt_cmp (DOpB.op (do_eq hr.units)) (de_lenT tkIS rfl hr.units (by rfl) T.b_len (by rfl) T.b_set (dn 3)) (de_callB dc_len (by rfl) T.b_len (by decide +kernel) (da_cons (dn 3) da_nil)))))) de_str de_str))))))), ?_⟩
  cases x with
  | int s =>
    conv => whnf
    refine onB_of (b := decide (1 ≤ s)) (fun h1 => ?_) (fun h1 => ?_)
    · have h1 := of_decide_eq_true h1
      conv => whnf
      refine onT_of (b := !decide (s ≤ 999)) (fun h2 => ?_) (fun h2 => ?_)
      · have e : due (.int s) y = "states" := by
          show (if decide (1 ≤ s) && decide (s ≤ 999) then _ else _) = _
          rw [decide_eq_true h1, show decide (s ≤ 999) = false by simpa using h2]; rfl
        rw [e] at hq
        exact hq
      · have h2 : s ≤ 999 := by simpa using h2
        have e : due (.int s) y = (if isMoves s y then ("" : Str) else ("moves" : Str)) := by
          show (if decide (1 ≤ s) && decide (s ≤ 999) then _ else _) = _
          rw [decide_eq_true h1, decide_eq_true h2]; rfl
        rw [e] at hq
        cases y with
        | tup ds =>
          obtain ⟨hdl, hda⟩ := anyM_tup.mp hy
          have bad : (∃ d ∈ ds, isMove s d = false) → Q (.str "moves") n := fun ⟨d, hd, hf⟩ => by
            have : isMoves s (.tup ds) = false := by
              show (ds.all (isMove s) && _) = false
              have : ds.all (isMove s) = false := List.all_eq_false.mpr ⟨d, hd, by rw [hf]; decide⟩
              rw [this, Bool.false_and]
            rw [this] at hq
            exact hq
          conv => whnf
          refine forL_J (fun (rest : List D) (S : Ds) => ∃ v2 : Option Sl, (v2 = none ∨ ∃ d, v2 = some (.v d)) ∧ S = ⟨[some (.v (.int s)), some (.v (.tup ds)), v2, none], n⟩ ∧ ∀ d ∈ ds, d ∈ rest ∨ isMove s d = true) _ _ ?_ ?_ ⟨none, .inl rfl, rfl, fun d hd => .inl hd⟩
          · rintro d rest S ⟨pre, epre⟩ ⟨v2, _, rfl, hall⟩ N hN
            have hd : d ∈ ds := by rw [epre]; simp
            have had := hda d hd
            have hN' : isMove s d = true → N ⟨[some (.v (.int s)), some (.v (.tup ds)), some (.v d), none], n⟩ := fun hm => hN _ ⟨_, .inr ⟨d, rfl⟩, rfl, fun x hx => by
              rcases hall x hx with h | h
              · rcases List.mem_cons.mp h with rfl | h
                · exact .inr hm
                · exact .inl h
              · exact .inr h⟩
            have bad' : isMove s d = false → Q (.str "moves") n := fun h => bad ⟨d, hd, h⟩
            cases d with
            | tup es =>
              by_cases h3 : es.length = 3
              · obtain ⟨a, b, c, rfl⟩ := three (by rw [h3]; rfl)
                obtain ⟨_, hes⟩ := anyM_tup.mp had
                have em : isMove s (.tup [a, b, c]) = (isIdx s a && isLet b && isIdx s c) := rfl
                rw [em] at hN' bad'
                conv => whnf
                refine ⟨(fun z e => by cases e), ?_⟩
                conv => whnf
                refine ⟨_, _, rfl, s, rfl, anyM_plain (hes a (by simp)), ?_⟩
                conv => whnf
                refine onT_of (b := !isIdx s a) (fun e1 => ?_) (fun e1 => ?_)
                · conv => whnf
                  exact bad' (by rw [show isIdx s a = false by simpa using e1]; rfl)
                have e1 : isIdx s a = true := by simpa using e1
                rw [e1, Bool.true_and] at hN' bad'
                conv => whnf
                refine ⟨(fun z e => by cases e), ?_⟩
                have hbb := hes b (by simp)
                cases b with
                | str l =>
                  have hll : l.length ≤ 62 := anyM_str.mp hbb
                  conv => whnf
                  refine ⟨(fun z e => by cases e), ?_⟩
                  conv => whnf
                  refine ⟨by omega, ?_⟩
                  by_cases hl : l.length = 1
                  · obtain ⟨c1, rfl⟩ := one_sign hl
                    have el : isLet (.str ⟨#[c1]⟩) = az c1 := by
                      show (decide (Str.length ⟨#[c1]⟩ = 1) && (az c1 && true)) = _
                      rw [decide_eq_true hl, Bool.true_and, Bool.and_true]
                    rw [el] at hN' bad'
                    conv => whnf
                    refine ⟨(fun z e => by cases e), ?_⟩
                    conv => whnf
                    refine ⟨c1, rfl, ?_⟩
                    rw [alph_mem]
                    refine onT_of (b := !az c1) (fun e2 => ?_) (fun e2 => ?_)
                    · conv => whnf
                      exact bad' (by rw [show az c1 = false by simpa using e2]; rfl)
                    have e2 : az c1 = true := by simpa using e2
                    rw [e2, Bool.true_and] at hN' bad'
                    conv => whnf
                    refine ⟨(fun z e => by cases e), ?_⟩
                    conv => whnf
                    refine ⟨_, _, rfl, s, rfl, anyM_plain (hes c (by simp)), ?_⟩
                    conv => whnf
                    refine onT_of (b := !isIdx s c) (fun e3 => ?_) (fun e3 => ?_)
                    · conv => whnf
                      exact bad' (by simpa using e3)
                    · conv => whnf
                      exact hN' (by simpa using e3)
                  · have el : isLet (.str l) = false := by
                      show (decide (l.length = 1) && _) = false
                      rw [decide_eq_false hl, Bool.false_and]
                    have el2 : (!decide (((l.length : Nat) : Int) = 1)) = true := by simp; omega
                    refine onT_t el2 ?_
                    conv => whnf
                    exact bad' (by rw [el]; rfl)
                | ins _ _ _ => cases hbb
                | «at» _ => cases hbb
                | _ => (conv => whnf); exact bad' rfl
              · conv => whnf
                have e3 : (!decide (((es.length : Nat) : Int) = 3)) = true := by simp; omega
                refine onT_t e3 ?_
                conv => whnf
                exact bad' (by
                  match es, h3 with
                  | [], _ => rfl
                  | [_], _ => rfl
                  | [_, _], _ => rfl
                  | [_, _, _], h => exact absurd rfl h
                  | _ :: _ :: _ :: _ :: _, _ => rfl)
            | ins _ _ _ => cases had
            | «at» _ => cases had
            | _ => (conv => whnf); exact bad' rfl
          · rintro S ⟨v2, hv2, rfl, hall⟩
            have hall : ∀ d ∈ ds, isMove s d = true := fun d hd => (hall d hd).elim (fun h => by cases h) id
            obtain ⟨as, rfl, hv, e3⟩ := moves_vr h2 hall
            have hq' : ∀ (bs : List Row3) (kb : List (Int × Str)), bs.Nodup → (∀ b, b ∈ bs ↔ b ∈ as) → bs.Pairwise (fun x y => PySem.W.DatumOrd.lt y x = false) → kb.Nodup → (∀ b, b ∈ kb ↔ b ∈ as.map t2) →
                Q (.str (if (decide (as = bs) && decide (kb.length = as.length)) = true then ("" : Str) else ("moves" : Str))) n := fun bs kb nb mb pb nk mk => by
              have e : isMoves s (.tup (as.map rowD)) = (decide (as = bs) && decide (kb.length = as.length)) := by
                rw [due_iff hv nb mb pb nk mk]
                show ((as.map rowD).all (isMove s) && (ascB ((as.map rowD).map t3Of) && ascB ((as.map rowD).map t2Of))) = _
                rw [List.all_eq_true.mpr hall, e3, Bool.true_and, List.map_map]; rfl
              rw [← e]; exact hq
            have las : as.length ≤ 62 := by rw [List.length_map] at hdl; exact hdl
            have fin : ∀ v2 : Option Sl, (v2 = none ∨ ∃ d, v2 = some (.v d)) → True := fun _ _ => trivial
            rcases hv2 with rfl | ⟨d2, rfl⟩
            all_goals
              conv => whnf
              refine lcL_map (fun d => knIS.e (t2Of d)) _ (fun d hd A hA => ?_) (by rw [List.length_map]; omega) ?_
              · obtain ⟨r, hr', rfl⟩ := List.mem_map.mp hd
                conv => whnf
                exact hA _ rfl
              · rw [show (List.map rowD as).map (fun d => knIS.e (t2Of d)) = (as.map t2).map (eT tkIS) by rw [List.map_map, List.map_map]; rfl]
                conv => whnf
                refine ⟨as, .inl rfl, by omega, fun bs nb mb pb => ?_⟩
                have lbs : bs.length ≤ 62 := Nat.le_trans (sub_len nb fun x hx => (mb x).mp hx) las
                conv => whnf
                refine ⟨(Gd.lst (a := 1) (b := 6) (ds := as.map rowD) fun d hd => ?_).good (by decide) (by rw [List.length_map]; omega), (Gd.lst (a := 1) (b := 6) (ds := bs.map rowD) fun d hd => ?_).good (by decide) (by rw [List.length_map]; omega), ?_⟩
                · obtain ⟨r, hr', rfl⟩ := List.mem_map.mp hd
                  exact gd_row (vr_sm (hv r hr'))
                · obtain ⟨r, hr', rfl⟩ := List.mem_map.mp hd
                  exact gd_row (vr_sm (hv r ((mb r).mp hr')))
                have ee := eqD_rows as bs
                refine onT_of (fun e => ?_) (fun e => ?_)
                · have e : decide (as = bs) = true := ee.symm.trans e
                  conv => whnf
                  refine ⟨as.map t2, .inr rfl, by rw [List.length_map]; omega, fun kb nk mk => ?_⟩
                  have hqq := hq' bs kb nb mb pb nk mk
                  rw [e, Bool.true_and] at hqq
                  conv => whnf
                  refine onT_of (fun e4 => ?_) (fun e4 => ?_)
                  · have e4 : kb.length = as.length := by
                      have h : ((kb.length : Nat) : Int) = (((as.map t2).map (eT tkIS)).length : Nat) := of_decide_eq_true e4
                      rw [List.length_map, List.length_map] at h; omega
                    rw [decide_eq_true e4] at hqq
                    exact hqq
                  · have e4 : kb.length ≠ as.length := fun h => by
                      have := of_decide_eq_false e4
                      apply this
                      simp [h]
                    rw [decide_eq_false e4] at hqq
                    exact hqq
                · have e : decide (as = bs) = false := ee.symm.trans e
                  obtain ⟨kb, nk, mk⟩ := ex_nodup (as.map t2)
                  have hqq := hq' bs kb nb mb pb nk mk
                  rw [e, Bool.false_and] at hqq
                  exact hqq
        | ins _ _ _ => cases hy
        | «at» _ => cases hy
        | _ => (conv => whnf); exact hq
    · have h1 := of_decide_eq_false h1
      have e : due (.int s) y = "states" := by
        show (if decide (1 ≤ s) && decide (s ≤ 999) then _ else _) = _
        rw [decide_eq_false h1]; rfl
      rw [e] at hq
      conv => whnf
      exact hq
  | ins _ _ _ => cases hx
  | «at» _ => cases hx
  | _ => (conv => whnf); exact hq
end
end K44
namespace K44
open PySem PySem.Spec PyProof.Rows L2 L2H Sw
def fldN : List Str := ["part"]
def exB : List Value := [.type "Exception", .type "BaseException", .type "object"]
def xcB (K : PySem.W.Frag) (C : Addr) : Bool := PySem.W.excInitIn K C exB "Exception.__new__" && (PySem.W.excOver K C exB && (PySem.W.hasDictIn K C && (PySem.W.keepIn K (.ref C) && (He.eqO (PySem.W.findIn K (.ref C) "__setattr__") (some (some (.builtin "object.__setattr__"))) &&
  (He.eqO (PySem.W.findIn K (.ref C) "__getattribute__") (some (some (.builtin "BaseException.__getattribute__"))) && (He.eqO (PySem.W.findIn K (.ref C) "__getattr__") (some none) && (He.eqO (PySem.W.findIn K (.ref C) "__class__") (some (some (.builtin "object.__class__"))) &&
  (decide (PySem.W.subIn K (.ref C) (.type "BaseException") = some true) && (decide (PySem.W.typeIn K (.ref C) = some (.type "type")) && (decide (PySem.W.mroIn K C (.type "object") = some true) && fldN.all fun f => He.eqO (PySem.W.findIn K (.ref C) f) (some none)))))))))))
structure XcC (K : PySem.W.Frag) (C : Addr) : Prop where
  mkr : PySem.W.excInitIn K C exB "Exception.__new__" = true
  ov : PySem.W.excOver K C exB = true
  hd : PySem.W.hasDictIn K C = true
  kp : PySem.W.keepIn K (.ref C) = true
  sa : PySem.W.findIn K (.ref C) "__setattr__" = some (some (.builtin "object.__setattr__"))
  ga : PySem.W.findIn K (.ref C) "__getattribute__" = some (some (.builtin "BaseException.__getattribute__"))
  gg : PySem.W.findIn K (.ref C) "__getattr__" = some none
  cl : PySem.W.findIn K (.ref C) "__class__" = some (some (.builtin "object.__class__"))
  ex : PySem.W.subIn K (.ref C) (.type "BaseException") = some true
  ty : PySem.W.typeIn K (.ref C) = some (.type "type")
  mo : PySem.W.mroIn K C (.type "object") = some true
  no : ∀ f ∈ fldN, PySem.W.findIn K (.ref C) f = some none
theorem xc_ok {K : PySem.W.Frag} {C : Addr} (h : xcB K C = true) : XcC K C := by
  unfold xcB at h
  simp only [Bool.and_eq_true, decide_eq_true_eq, List.all_eq_true] at h
  obtain ⟨h1, h2, h3, h4, h5, h6, h7, h8, h9, h10, h11, h12⟩ := h
  exact ⟨h1, h2, h3, h4, He.eqO_ok h5, He.eqO_ok h6, He.eqO_ok h7, He.eqO_ok h8, h9, h10, h11, fun f hf => He.eqO_ok (h12 f hf)⟩
/-! ### the stores of an __init__ -/
section
open Builtin Builtin.ObjectAttr PySem.W PySem.Calls PySem.HandSPX
variable {prog : Program} {w : World} {A : Around} {R : Result → Shared → Prop} {hp : Heap} {g : Array GenState} {d : Drawn} {t : Nat} {os : OsState}
theorem put_first {K : W.Frag} {name : Str} {tk : Tok} {v : Value} {x C t0 : Addr} (X : K.In hp) (T : XcC K C) (hx : hp.get? x = some (excO C t0)) (ha : W.findIn K (.ref C) name = some none)
    (hq : ∀ h' tk' dx, (∀ b o, b ≠ x → hp.get? b = some o → h'.get? b = some o) → hp.objs.size ≤ dx → dx ≠ x → h'.get? x = some ({ cls := .ref C, dict := some dx, data := .fields #[.ref t0, .none, .none, .none, .bool false, .none] } : Obj) →
      h'.Ns1 dx (fun y => if y = name then some v else none) → R (.ok (.ret .none)) ⟨h', g, d, tk', os⟩) :
    codeAny (model prog w) A (.call (.builtin "object.__setattr__") ⟨[.ref x, .str name tk, v], []⟩) R ⟨hp, g, d, t, os⟩ := by
  have tk0 : takerIn K C name = some none := by unfold takerIn; rw [ha]; rfl
  refine osa_openX (s := ⟨hp, g, d, t, os⟩) (od := none) F.store_Exception X ⟨hx, rfl, rfl, trivial⟩ T.ov tk0 fun b => ?_
  obtain ⟨cd, hc, hd'⟩ := any_some T.hd
  have hcls : W.Looks (model prog w) hp (classData C) cd := W.looks_clsIn X hc
  have hxs : x ≠ hp.objs.size := Nat.ne_of_lt (Heap.lt_size hx)
  obtain ⟨nm, bs, mro, ns, qn, hd, sn, sb, ab, col, del⟩ := cd
  (try dsimp only at hd')
  subst hd'
  unfold storeInOwnDict ownDictForStores
  repeat (first | with_reducible refine store_in_new ?_ ?_ | with_reducible refine wpAny_loadPart_at hx ?_ | with_reducible refine hcls.at ?_ | wp_step)
  · exact ⟨_, #[], _, (Heap.get?_update_ne _ _ _ _ hxs.symm).trans (Heap.get?_push_at rfl rfl), rfl, fun e he => absurd he (by simp), fun _ => rfl⟩
  · intro h' tk' hn' hs
    have hx1 : (hp.push { cls := .type "dict", data := .dict #[] }).get? x = some (excO C t0) := Heap.get?_push_of_some _ hx
    refine hq h' tk' hp.objs.size (fun b o hb ho => ?_) (Nat.le_refl _) hxs.symm ?_ hn'
    · exact (hs.2 b (Nat.ne_of_lt (Heap.lt_size ho))).trans ((Heap.get?_update_ne _ _ _ _ hb).trans (Heap.get?_push_of_some _ ho))
    · exact (hs.2 x hxs).trans (Heap.get?_update_self _ hx1 rfl)
theorem put_more {K : W.Frag} {name : Str} {tk : Tok} {v : Value} {x C t0 dx : Addr} {m0 : Str → Option Value} {nl : List Str} (X : K.In hp) (T : XcC K C)
    (hx : hp.get? x = some ({ cls := .ref C, dict := some dx, data := .fields #[.ref t0, .none, .none, .none, .bool false, .none] } : Obj)) (ha : W.findIn K (.ref C) name = some none) (hns : hp.Ns1 dx m0) (hw : Within m0 nl) (hz : nl.length ≤ 1000)
    (hq : ∀ h' tk', (∀ b o, b ≠ dx → hp.get? b = some o → h'.get? b = some o) → h'.Ns1 dx (fun y => if y = name then some v else m0 y) → R (.ok (.ret .none)) ⟨h', g, d, tk', os⟩) :
    codeAny (model prog w) A (.call (.builtin "object.__setattr__") ⟨[.ref x, .str name tk, v], []⟩) R ⟨hp, g, d, t, os⟩ := by
  have tk0 : takerIn K C name = some none := by unfold takerIn; rw [ha]; rfl
  obtain ⟨oD, esD, epD, hoD, hdD, _⟩ := hns.count hw
  refine osa_openX (s := ⟨hp, g, d, t, os⟩) (od := some oD) F.store_Exception X ⟨hx, rfl, rfl, hoD⟩ T.ov tk0 fun b => ?_
  obtain ⟨cd, hc, hd'⟩ := any_some T.hd
  have hcls : W.Looks (model prog w) hp (classData C) cd := W.looks_clsIn X hc
  obtain ⟨nm, bs, mro, ns, qn, hd, sn, sb, ab, col, del⟩ := cd
  (try dsimp only at hd')
  subst hd'
  unfold storeInOwnDict ownDictForStores
  repeat (first | with_reducible refine OEX.store_in_old hns hw hz ?_ | with_reducible refine wpAny_loadPart_at hx ?_ | with_reducible refine hcls.at ?_ | wp_step)
  intro h' tk' hn' hs
  exact hq h' tk' (fun b o hb ho => (hs.2 b hb).trans ho) hn'
end
section
variable {X : Cx} {pins : List (Addr × Obj)} {σ : L2.St} {H : Hp} {s : Shared} {a C dx : Addr} {f : Str} {y : V} {u : Value} {fs : List (Str × V)} {Q : Unit → Shared → Prop} {E : Value → Shared → Prop} {A : Around}
/-- self.f = y on an error without fields yet -/
theorem st_first (T : XcC X.K C) (I : Inv X pins σ H s) (e : H a = some (exo a C none)) (hno : PySem.W.findIn X.K (.ref C) f = some none) (ry : RelV y u)
    (h : ∀ dx s', H dx = none → dx ≠ a → Inv X pins σ (upd (upd H dx (exd dx [(f, y)])) a (exo a C (some dx))) s' → Q () s') : wpAny (model X.prog X.w) A (setAttr (.ref a) f u) Q E s := by
  obtain ⟨t0, ho⟩ := exo_at I.hok e
  obtain ⟨hp, g, d, t, os⟩ := s
  refine PySem.W.set_plain I.kIn (ox := PySem.HandSPX.excO C t0) (od := none) ⟨ho, rfl, rfl, trivial⟩ T.sa (put_first I.kIn T ho hno fun h' tk' dx k hfr hne hx hn => ?_)
  have dfree : H dx = none := I.hok.fresh hfr
  have low : ∀ {b : Addr} {o : Obj}, hp.get? b = some o → b ≠ dx := fun {b o} q => Nat.ne_of_lt (Nat.lt_of_lt_of_le (Heap.lt_size q) hfr)
  have off : ∀ {b : Addr}, H b = none → b ≠ a := fun {b} n z => by rw [z, e] at n; cases n
  refine h dx _ dfree hne (I.un (t' := tk') (show Un X.fs [] H (upd (upd H dx (exd dx [(f, y)])) a (exo a C (some dx))) hp h' from
    { keep := fun b o q n _ _ => k b o (off n) q
      slot := fun b o q n _ _ => ⟨o.slots, k b o (off n) q⟩
      free := fun b o q n _ => by rw [upd_ne (off n), upd_ne (low q)]; exact n
      there := fun b o q _ => by
        by_cases hb : b = a
        · subst hb; exact ⟨_, hx⟩
        · exact ⟨o, k b o hb q⟩
      tups := fun b xs q => by rw [upd_ne (at_ne e q exo_tup), upd_ne (ne_of_none q dfree)]; exact q
      frzs := fun b o v q => by rw [upd_ne (at_ne e q exo_frz), upd_ne (ne_of_none q dfree)]; exact q
      tbls := fun b ps q => ⟨#[], by rw [upd_ne (at_ne e q exo_tbl), upd_ne (ne_of_none q dfree), q]; simp⟩ }) fun b o q => ?_)
  by_cases hb : b = a
  · subst hb
    rw [upd_same] at q
    cases q
    exact exo_ok hx
  · rw [upd_ne hb] at q
    by_cases hd : b = dx
    · subst hd
      rw [upd_same] at q
      cases q
      exact exd_ok hn (relO_put (fs := []) ry fun g => True.intro)
    · rw [upd_ne hd] at q
      refine (I.hok b o q).stay (fun c v hc z => k c v ?_ z) (fun c hc => ?_) fun c xs hc => ?_
      · rcases hc with hc | hc
        · rw [hc]; exact hb
        · exact at_ne e hc exo_own
      · rw [upd_ne (at_ne e hc exo_own), upd_ne (ne_of_none hc dfree)]; exact hc
      · rw [upd_ne (at_ne e hc exo_tup), upd_ne (ne_of_none hc dfree)]; exact hc
/-- .. and a further one -/
theorem st_more (T : XcC X.K C) (I : Inv X pins σ H s) (e : H a = some (exo a C (some dx))) (ed : H dx = some (exd dx fs)) (hl : fs.length ≤ 900) (hno : PySem.W.findIn X.K (.ref C) f = some none) (ry : RelV y u)
    (h : ∀ s', Inv X pins σ (upd H dx (exd dx ((f, y) :: fs))) s' → Q () s') : wpAny (model X.prog X.w) A (setAttr (.ref a) f u) Q E s := by
  obtain ⟨t0, ho⟩ := exo_at I.hok e
  obtain ⟨mA, hns, rel⟩ := exd_at I.hok ed
  have hw := within_of rel
  obtain ⟨hp, g, d, t, os⟩ := s
  obtain ⟨oD, _, _, hoD, _, _⟩ := hns.count hw
  refine PySem.W.set_plain I.kIn (ox := { cls := .ref C, dict := some dx, data := .fields #[.ref t0, .none, .none, .none, .bool false, .none] }) (od := some oD) ⟨ho, rfl, rfl, hoD⟩ T.sa
    (put_more I.kIn T ho hno hns hw (by rw [List.length_map]; omega) fun h' tk' k hn => ?_)
  have hd : ∃ o, h'.get? dx = some o := let ⟨o, _, _, e', _⟩ := hn; ⟨o, e'⟩
  exact h _ (I.write (t' := tk') (x := dx) (e := dx) (o := exd dx ((f, y) :: fs)) (by rw [ed]; exact True.intro) (.inl rfl) k hd (exd_ok hn (relO_put ry rel)))
end
/-- self.f = e in an __init__ of an error -/
def tXst (K : PySem.W.Frag) (f : Str) (to te : TE) : TS := fun D σ H => te σ H fun y H1 => to σ H1 fun x H2 => ∃ a C : Addr, x = .ref a ∧ XcC K C ∧ f ∈ fldN ∧
  ((H2 a = some (exo a C none) ∧ ∀ dx, H2 dx = none → dx ≠ a → D.nx σ (upd (upd H2 dx (exd dx [(f, y)])) a (exo a C (some dx)))) ∨
    ∃ (dx : Addr) (fs : List (Str × V)), H2 a = some (exo a C (some dx)) ∧ H2 dx = some (exd dx fs) ∧ fs.length ≤ 900 ∧ D.nx σ (upd H2 dx (exd dx ((f, y) :: fs))))
theorem ps_xst {X : Cx} {o e : Expr} {to te : TE} {f : Str} {p' pos : Pos} (ho : PE X o to) (he : PE X e te) (hs : swapsWith e (some (.Attribute o f p')) pos.line X.env = pure false := by rfl) : PS X (.Assign [.Attribute o f p'] e pos) (tXst X.K f to te) := by
  refine ⟨fun pins s σ H D I h => ?_⟩
  refine plainObj_wpAny_Assign_Attribute (thn (he.run pins s σ H _ I h) fun v s1 ⟨y, H1, I1, r1, q1⟩ => thn (ho.run pins s1 σ H1 _ I1 q1) fun u s2 ⟨x, H2, I2, r2, a, C, ex, T, hf, q⟩ => ?_) hs
  subst ex
  obtain rfl : u = Value.ref a := r2
  rcases q with ⟨ea, q⟩ | ⟨dx, fs, ea, ed, hl, q⟩
  · exact st_first T I2 ea (T.no f hf) r1 fun dx s' n ne J => ⟨σ, _, J, q dx n ne⟩
  · exact st_more T I2 ea ed hl (T.no f hf) r1 fun s' J => ⟨σ, _, J, q⟩
theorem fn_bind {K : PySem.W.Frag} {h : Heap} {fI : Addr} {M : Model} (X : K.In h) (hf : PySem.W.isFn K (.ref fI) = true) (self : Value) : PySem.W.Looks M h (bindSpecial (.ref fI) self) (.ref fI, [self]) := by
  obtain ⟨o, ho, hc⟩ := Option.map_eq_some_iff.mp (show (K.lookup fI).map (·.cls) = some (.type "function") from beq_iff_eq.mp hf)
  exact PySem.W.exc_bind (X _ _ ho) hc self
section
variable {X : Cx} {k : Nat} {C fI : Addr} {fd : FuncData} {ps ks : List Str} {sp : Sp} {x : Str} {p pos : Pos} {e : Expr} {es : List Expr} {kws : List Keyword} {ta tk : TA} {g : List Value → List Value → List Value} {gV : List V → List V → List V}
/-- C(e, ..), an own error with its own __init__, as a value -/
theorem pe_xmk (T : XcC X.K C) (hi : PySem.W.findIn X.K (.ref C) "__init__" = some (some (.ref fI))) (hf : PySem.W.isFn X.K (.ref fI) = true) (F1 : FnOk X.prog X.w X.K X.mg X.base CX0 k fI fd ps sp) (hr : Room (k + 1) X.A) (hb : Binds X.K fd ps []) (hg : Gl X x) (hm : X.mg x = some (.ref C))
    (ha : PA X (e :: es) ta) (hdb : (x == ("__debug__" : Str)) = false := by decide) (he : starEach (e :: es) X.env = (false, eval e X.env) :: starEach es X.env := by rfl) (hpl : (backTo pos (starEach es X.env)).any (·.1) = false := by rfl) :
    PE X (.Call (.Name x p) (e :: es) [] pos) (fun σ H Q => ta σ H fun vs H1 => vs.length ≤ 1000 ∧ ∀ a, H1 a = none → sp (.ref a :: vs) (upd H1 a (exo a C none)) (fun v H2 => v = .non ∧ Q (.ref a) H2) E0) := by
  refine ⟨fun pins s σ H Q I h => ?_⟩
  refine wpAny_Call_Name_kw (ld_glob I hg hm ?_ hdb)
  refine PySem.W.callWith_K (h₀ := X.base) I.ok.mod.kin T.kp (thn (ha.run pos pins s σ H _ I h) fun us s1 ⟨vs, H1, I1, r1, hz, q1⟩ => ⟨I1.kIn, ?_⟩) he hpl
  show wpAny _ _ (call (.ref C) us) _ _ _
  obtain ⟨nm, N, q, bs, bm, hd, sn, sub, ab, col, dd, k0, k1, k2, k3, k5, hC, hT⟩ := PySem.W.excInit_of I1.kIn T.mkr
  obtain ⟨hp, g, dr, tk, os⟩ := s1
  have hsz : hp.objs.size ≤ hp.objs.size + 1 := Nat.le_succ _
  have hn : H1 (hp.objs.size + 1) = none := I1.hok.fresh hsz
  have kk : ∀ b o, hp.get? b = some o → ((hp.push (PySem.W.kdv_tup us)).push (PySem.HandSPX.excO C hp.objs.size)).get? b = some o := fun b o e => Heap.get?_push_of_some _ (Heap.get?_push_of_some _ e)
  have hget : ((hp.push (PySem.W.kdv_tup us)).push (PySem.HandSPX.excO C hp.objs.size)).get? (hp.objs.size + 1) = some (PySem.HandSPX.excO C hp.objs.size) := by heap_get
  have J := I1.laid (t' := tk) (a := hp.objs.size + 1) (o := exo (hp.objs.size + 1) C none) (h' := (hp.push (PySem.W.kdv_tup us)).push (PySem.HandSPX.excO C hp.objs.size)) kk hsz (exo_ok hget)
  have hq := q1 (hp.objs.size + 1) hn
  have r2 : Vals (V.ref (hp.objs.size + 1) :: vs) (Value.ref (hp.objs.size + 1) :: us) := .cons rfl r1
  have hl : (Value.ref (hp.objs.size + 1) :: us ++ []).length = ps.length := by
    have e := r2.length
    rw [F1.len _ _ _ _ hq] at e
    rw [List.append_nil]; exact e.symm
  have hus : us.length ≤ sizeLine := by
    have := line_big
    rw [← Paired.length r1]; omega
  have hbt := hb _ (Value.ref (hp.objs.size + 1) :: us) J.kIn hl
  rw [List.append_nil] at hbt
  refine wpAny_call (PySem.HandSPX.call_own F.excBase_Exception hT hC (PySem.W.looks_findIn I1.kIn hi) (fun self => fn_bind I1.kIn hf self) hus
    (codeAny_mono (F1.run _ X.stack _ _ ⟨Value.ref (hp.objs.size + 1) :: us, []⟩ (Value.ref (hp.objs.size + 1) :: us) _ _ _ (hr.make C us []) (J.env0.make C us []) hbt r2 hq) fun r s' hz' => ?_))
  cases r with
  | error er => exact False.elim hz'
  | ok fl =>
    cases fl with
    | ret u =>
      obtain ⟨v, H2, J2, rv, ev, q2⟩ := J.after hz'
      subst ev
      exact ⟨rv, .ref (hp.objs.size + 1), H2, J2, rfl, q2⟩
    | next => exact False.elim hz'
    | brk => exact False.elim hz'
    | cont => exact False.elim hz'
end
theorem ns1_there {h : Heap} {d : Addr} {m : Str → Option Value} (n : h.Ns1 d m) : ∃ o, h.get? d = some o := let ⟨o, _, _, e, _⟩ := n; ⟨o, e⟩
structure XcG (K : PySem.W.Frag) : Prop where
  g : PySem.W.specialIn K (.builtin "object.__class__") "__get__" = some (some (.builtin "getset_descriptor.__get__"))
  t : PySem.W.takesIn K (.builtin "object.__class__") = some true
section
variable {X : Cx} {q : Addr × Obj}
/-- the held error: its class, its dict -/
def Xp (q : Addr × Obj) (H : Hp) (C : Addr) : Prop := q.2.cls = .ref C ∧ (∃ vs, q.2.data = .fields vs) ∧ (q.2.dict = none ∨ ∃ d fs, q.2.dict = some d ∧ H d = some (exd d fs))
theorem Xp.same {q : Addr × Obj} {H H' : Hp} {C : Addr} (x : Xp q H C) (s : Same H H') : Xp q H' C := ⟨x.1, x.2.1, x.2.2.imp id fun ⟨d, fs, h1, h2⟩ => ⟨d, fs, h1, s _ _ h2⟩⟩
theorem call_xisH (G : XcG X.K) (hq : q ∈ X.pn) : CallR X (.builtin "isinstance") (fun xs H Q => ∃ (C : Addr) (c : V) (u : Value) (b : Bool), xs = [.ref q.1, c] ∧ Xp q H C ∧ XcC X.K C ∧ ClsV c u ∧ PySem.W.kitOne X.K (.ref C) u = some b ∧ Q (.bl b) H) := by
  intro pins s σ H xs us Q I r h
  obtain ⟨C, c, u, b, rfl, ⟨x1, ⟨vs, x2⟩, x3⟩, T, k, e, z⟩ := h
  obtain ⟨u1, u2, rfl, r1, r2⟩ := vals2 r
  cases (show u1 = Value.ref q.1 from r1)
  have e2 := k.eq r2
  subst e2
  have get := (I.pin q (List.mem_append_left _ hq)).1
  obtain ⟨od, J⟩ : ∃ od, PySem.W.InstAt s.heap q.1 q.2 C od := by
    rcases x3 with x3 | ⟨d, fs, x3, x4⟩
    · exact ⟨none, get, x1, by unfold PySem.W.notCls; rw [x2] <;> rfl, by rw [x3]; trivial⟩
    · obtain ⟨m, hn, _⟩ := exd_at I.hok x4
      obtain ⟨od, hd⟩ := ns1_there hn
      exact ⟨some od, get, x1, by unfold PySem.W.notCls; rw [x2] <;> rfl, by rw [x3]; exact hd⟩
  have hcl : (PySem.W.clsIn X.K C).isSome = true := by
    obtain ⟨cd, hc, _⟩ := PySem.W.any_some T.hd
    rw [hc]; rfl
  exact PySem.W.kia_one (PySem.W.kitx_exc hcl T.ga T.gg T.ex T.cl G.g G.t T.mo) I.kIn J e (fun z => nomatch z) fun tk => ⟨.bl b, H, I.tok tk, rfl, z⟩
/-- what gives a new own error back is raised -/
theorem pmk_val {t : TE} {K0 : PySem.W.Frag} {H0 : Hp} (hx : X.ex = []) (eK : X.K = K0) (eH : X.H_0 = H0) (he : PE X e t) : L2N.PMk X e (fun σ H Q => t σ H fun x H1 => ∃ a C, x = .ref a ∧ XcC K0 C ∧ Fr0 H0 a ∧
    ((∃ d fs, H1 a = some (exo a C (some d)) ∧ H1 d = some (exd d fs) ∧ Q (.ref C) (some d) (delH H1 a)) ∨ (H1 a = some (ExO (.ref C) a) ∧ Q (.ref C) none (delH H1 a)))) := by
  subst eK eH
  intro pins s σ H Q I h
  refine wpAny_mono (he.run pins s σ H _ I h) (fun u s1 hu => ?_) fun _ _ x => x
  obtain ⟨v, H1, I1, r1, a, C, rfl, T, f0, z⟩ := hu
  cases r1
  rcases z with ⟨d, fs, h1, h2, z⟩ | ⟨h1, z⟩
  · obtain ⟨t0, ho⟩ := exo_at I1.hok h1
    obtain ⟨G, gs, ga, J⟩ := I1.untrack h1 f0 hx
    exact ⟨a, _, _, { s1 with heap := G }, delH H1 a, .ref C, some d, rfl, J, gs, ga, ho, ⟨rfl, rfl, fun vs e => by cases e; rfl⟩, rfl, rfl, delH_same, rfl, I1.bare, raises_own T.ex T.ty, z⟩
  · obtain ⟨⟨oe, vs, ho, hz, hd, k1, k2, _⟩, _⟩ := (show ObjOk X.prog X.w H1 s1.heap a (ExO (.ref C) a) from I1.hok a _ h1)
    obtain ⟨G, gs, ga, J⟩ := I1.untrack h1 f0 hx
    exact ⟨a, oe, vs, { s1 with heap := G }, delH H1 a, .ref C, none, rfl, J, gs, ga, ho, ⟨hz.1, hz.2, fun vs' e => by rw [hd] at e; cases e; exact k2⟩, hd, k1, delH_same, rfl, I1.bare, raises_own T.ex T.ty, z⟩
end
end K44
namespace K44
open PySem PySem.Spec PyProof.Rows L2 Sw Dl Ss
/-! ### what of classes is told by the head -/
structure Tz (K : PySem.W.Frag) (mg : Str → Option Value) extends Tx K mg where
  xB : XcC K c_BadMarking
  iB : PySem.W.findIn K (.ref c_BadMarking) "__init__" = some (some (.ref f_BadMarking____init__))
  fB : PySem.W.isFn K (.ref f_BadMarking____init__) = true
  xG : XcG K
  exmB : PySem.W.exmOne K (.ref c_BadMarking) (.ref c_BadMarking) = some true
  kitB : PySem.W.kitOne K (.ref c_BadMarking) (.ref c_StreamError) = some true
  insM : InsC K c_Marking
  mkM : Mk K c_Marking f_Marking____init__
  noS : NoAttr K c_Marking "states"
  noM : NoAttr K c_Marking "moves"
  noT : NoAttr K c_Marking "steps"
  told : Meth K c_Marking "told" f_Marking__told
  eqM : PySem.W.findIn K (.ref c_Marking) "__eq__" = some (some (.ref f_Marking____eq__))
  eqF : PySem.W.isFn K (.ref f_Marking____eq__) = true
  yesM : PySem.W.kitOne K (.ref c_Marking) (.ref c_Marking) = some true
  noK : ∀ n ∈ tyNames, PySem.W.kitOne K (.type n) (.ref c_Marking) = some false
  nf : ∀ n ∈ tyNames, PySem.W.notFirst K c_Marking (.type n) = true
section
variable {P : Program} {w : World} {K : PySem.W.Frag} {mg : Str → Option Value} {base : Heap}
/-! ### the error's own __init__ -/
def spBI (K : PySem.W.Frag) : Sp := fun vs H Q _ => ∃ (a C : Addr) (v : V), vs = [.ref a, v] ∧ XcC K C ∧ H a = some (exo a C none) ∧ ∀ dx, H dx = none → dx ≠ a → Q .non (upd (upd H dx (exd dx [("part", v)])) a (exo a C (some dx)))
theorem ok_badinit (T : Tx K mg) : FnOk P w K mg base CX0 1 T.f_BadMarking____init__ T.d_BadMarking____init__ ["self", "part"] (spBI K) := by
  refine T.F_BadMarking____init__.ok sc_BadMarking____init__ (fun vs H Q E h => ?_) (fun cdv A outer s H vs Q E hr h => ?_)
  · obtain ⟨a, C, v, rfl, _⟩ := h; rfl
  · obtain ⟨a, C, v, rfl, hT, ha, k⟩ := h
    exact ⟨_, PSs.nox (pss_one (ps_xst (pv 0) (pv 1))), _, rfl, _, rfl, a, C, rfl, hT, by decide, .inl ⟨ha, fun dx hdx hne => k dx hdx hne⟩⟩
end
/-! ### raise BadMarking(part) -/
def kk0 : Dek := ⟨[], fun _ _ => True, fun _ _ _ _ _ => trivial, fun _ _ _ a h => by cases h⟩
def dRaise (Z : Str → Prop) (z : Str) : DST := fun _ S => Z z
/-- what flies: the heap is as it was, and the error's dict -/
def wxZ (W : Wd kk0) (CB : Addr) (Z : Str → Prop) : WX := fun cls d σ H => cls = .ref CB ∧ ∃ z dd, d = some dd ∧ H dd = some (exd dd [("part", .str z)]) ∧ W.F dd = none ∧ Same W.F H ∧ Z z
section
variable {X : Cx} {W : Wd kk0} {CB fI : Addr} {fd : FuncData} {l : Nat} {x : Str} {p p2 p3 pos : Pos} {z : Str}
theorem ds_raise {Z : Str → Prop} {k : Nat} (hc : X.calm = true) (hx : X.ex = []) (tk : L2N.Takes X (wxZ W CB Z)) (hF : ∀ a, W.F a = none → X.H_0 a = none) (T : XcC X.K CB) (hi : PySem.W.findIn X.K (.ref CB) "__init__" = some (some (.ref fI))) (hf : PySem.W.isFn X.K (.ref fI) = true)
    (F1 : FnOk X.prog X.w X.K X.mg X.base CX0 l fI fd ["self", "part"] (spBI X.K)) (hr : Room (l + 1) X.A) (hb : Binds X.K fd ["self", "part"] []) (hg : Gl X x) (hm : X.mg x = some (.ref CB)) (hdb : (x == ("__debug__" : Str)) = false := by decide)
    (hs : starEach [.Constant (.str z) k p2] X.env = (false, eval (.Constant (.str z) k p2) X.env) :: starEach [] X.env := by rfl) (hpl : (backTo pos (starEach [] X.env)).any (·.1) = false := by rfl) :
    DS X W (.Raise (some (.Call (.Name x p) [.Constant (.str z) k p2] [] pos)) none p3) (dRaise Z z) := by
  refine ps_imp (L2N.ps_raise hc tk (pmk_val (K0 := X.K) (H0 := X.H_0) hx rfl rfl (pe_xmk T hi hf F1 hr hb hg hm (pa_cons pe_str pa_nil hs) hdb hs hpl))) fun N σ H ⟨G, S, E, R, h, ok⟩ => ?_
  refine ⟨by show 1 ≤ 1000; decide, fun a ha => ⟨a, CB, .str z, rfl, T, upd_same, fun dx hdx hne => ⟨rfl, a, CB, rfl, T, fr0_none (hF a (R.fr.free ha)), .inl ⟨dx, [("part", .str z)], upd_same, by rw [upd_ne hne]; exact upd_same, rfl, z, dx, rfl, ?_, ?_, ?_, h⟩⟩⟩⟩
  · rw [delH_ne hne, upd_ne hne]; exact upd_same
  · rw [upd_ne hne] at hdx; exact R.fr.free hdx
  · intro b o hb
    have h1 := R.fr b o hb
    have n1 : b ≠ a := ne_of_none h1 ha
    have h2 : upd H a (exo a CB none) b = some o := by rw [upd_ne n1]; exact h1
    rw [delH_ne n1, upd_ne n1, upd_ne (ne_of_none h2 hdx), upd_ne n1]; exact h1
end
end K44
namespace K44
open PySem PySem.Spec PyProof.Rows L2 Sw Dl Ss
/-! ### Marking(states, moves) -/
def stepsF : List Row3 → List (List Key × D) → List (List Key × D)
  | [], acc => acc
  | r :: as, acc => stepsF as (putD acc [.inl r.1, .inr r.2] (.int r.3))
def stepsD : D → D
  | .tup ds => let acc := stepsF (ds.map t3Of) []; .dt (acc.map (·.1)) (acc.map (·.2))
  | _ => .non
abbrev markN : List Str := ["states", "moves", "steps"]
def markD (d1 d2 : D) : List D := [d1, d2, stepsD d2]
theorem putD_len (acc : List (List Key × D)) (k : List Key) (d : D) : (putD acc k d).length ≤ acc.length + 1 := by
  unfold putD
  split
  · rw [List.length_map]; omega
  · rw [List.length_append]; exact Nat.le_refl _
section
variable {P : Program} {w : World} {K : PySem.W.Frag} {mg : Str → Option Value} {base : Heap}
def spInit (K : PySem.W.Frag) (CB C : Addr) : Sp := fun vs H Q E => ∃ (x dx : Addr) (v1 v2 : V) (G : Hp) (d1 d2 : D), vs = [.ref x, v1, v2] ∧ H x = some (.ins C dx []) ∧ G x = none ∧ Same G H ∧ Dv K G v1 d1 ∧ Dv K G v2 d2 ∧ anyM 62 d1 = true ∧ anyM 62 d2 = true ∧
  (due d1 d2 = "" → ∀ H' G', Same G G' → Same G' H' → (∀ a o, G' a = some o → G a = some o ∨ H a = none) → (∀ a o, a ≠ x → H a = some o → H' a = some o) → G' x = none → (∃ fs, H' x = some (.ins C dx fs) ∧ fs.map (·.1) = markN ∧ DvAll K G' (fs.map (·.2)) (markD d1 d2)) → Q .non H') ∧
  (due d1 d2 ≠ "" → ∀ dd H', H dd = none → H' dd = some (exd dd [("part", .str (due d1 d2))]) → Same H H' → E (.ref CB) (some dd) H')
theorem dc_rows {vs : List Nat} {P : D → Ds → Prop} {d1 d2 : D} : ∀ (as : List Row3) (acc : List (List Key × D)), acc.length + as.length ≤ 1000 →
    P (.dt ((stepsF as acc).map (·.1)) ((stepsF as acc).map (·.2))) ⟨[none, some (.v d1), some (.v d2), none, none, none], 0⟩ →
    dcL [3, 4, 5] (gT 3 (gsCons (gN 3) (gsCons (gN 4) (gsCons (gN 5) gsNil)))) (dTup (dCons (dVar 3) (dCons (dVar 4) dNil))) (dVar 5) P (as.map rowD) acc ⟨[none, some (.v d1), some (.v d2), none, none, none], 0⟩
  | [], acc, _, h => h
  | r :: as, acc, hl, h => by
    rw [List.length_cons] at hl
    have lz := line_big
    conv => whnf
    refine ⟨rfl, ?_⟩
    conv => whnf
    refine ⟨by show 2 ≤ sizeLine; decide, ?_⟩
    conv => whnf
    refine ⟨_, [.inl r.1, .inr r.2], rfl, rfl, by omega, ?_⟩
    have := putD_len acc [.inl r.1, .inr r.2] (.int r.3)
    exact dc_rows (vs := vs) as _ (by omega) h
mutual
theorem anyM_any : ∀ d : D, anyM 62 d = true → anyD d = true
  | .non, _ => rfl
  | .bl _, _ => rfl
  | .int _, _ => rfl
  | .str z, e => decide_eq_true (by have := of_decide_eq_true (show decide (z.length ≤ 62) = true from e); omega)
  | .lst ds, e => by
    obtain ⟨h1, h2⟩ := Bool.and_eq_true_iff.mp (show (decide (ds.length ≤ 62) && anyMs 62 ds) = true from e)
    exact Bool.and_eq_true_iff.mpr ⟨decide_eq_true (by have := of_decide_eq_true h1; omega), anyMs_any ds h2⟩
  | .tup ds, e => by
    obtain ⟨h1, h2⟩ := Bool.and_eq_true_iff.mp (show (decide (ds.length ≤ 62) && anyMs 62 ds) = true from e)
    exact Bool.and_eq_true_iff.mpr ⟨decide_eq_true (by have := of_decide_eq_true h1; omega), anyMs_any ds h2⟩
  | .dk ks ds, e => e
  | .dt _ _, e => by cases e
  | .ins _ _ _, e => by cases e
  | .at _, e => by cases e
theorem anyMs_any : ∀ ds : List D, anyMs 62 ds = true → anyDs ds = true
  | [], _ => rfl
  | d :: ds, e => by
    obtain ⟨h1, h2⟩ := Bool.and_eq_true_iff.mp (show (anyM 62 d && anyMs 62 ds) = true from e)
    exact Bool.and_eq_true_iff.mpr ⟨anyM_any d h1, anyMs_any ds h2⟩
end
theorem due_states {s : Int} {y : D} (h : ¬ (1 ≤ s ∧ s ≤ 999)) : due (.int s) y = "states" := by
  show (if decide (1 ≤ s) && decide (s ≤ 999) then _ else _) = _
  rw [if_neg]
  rw [Bool.and_eq_true, decide_eq_true_eq, decide_eq_true_eq]; exact h
theorem due_moves {s : Int} {y : D} (h1 : 1 ≤ s) (h2 : s ≤ 999) : due (.int s) y = if isMoves s y then ("" : Str) else ("moves" : Str) := by
  show (if decide (1 ≤ s) && decide (s ≤ 999) then _ else _) = _
  rw [if_pos (show (decide (1 ≤ s) && decide (s ≤ 999)) = true by rw [Bool.and_eq_true, decide_eq_true_eq, decide_eq_true_eq]; exact ⟨h1, h2⟩)]
theorem Wd.ext' {k : Dek} {W W' : Wd k} (h1 : W.B = W'.B) (h2 : W.F = W'.F) : W = W' := by
  cases W; cases W'
  dsimp only at h1 h2
  subst h1 h2
  rfl
theorem st_fld {W2 : Wd kk0} {x C dx : Addr} {fs : List (Str × V)} {nx : x ∉ kk0.dk} {G1 H1 : Hp} {σ : L2.St} {S : Ds} {te : DT} {f : Str} {N : Ends} {P : D → Ds → Prop} (fx : W2.F x = none) (bx : W2.B x = none) (c : Cls K C) (na : NoAttr K C f) (hl : fs.length < 1000) (hσ : σ[0]? = some (some (.ref x)))
    (R : Rep (W2.plus x (.ins C dx fs) nx) K G1 H1 σ S) (ht : te S P)
    (next : ∀ d S' v H2 G2, P d S' → Same G1 G2 → Dv K G2 v d → Rep (W2.plus x (.ins C dx (putF f v fs)) nx) K G2 (upd H2 x (.ins C dx (putF f v fs))) σ S' → N.nx σ (upd H2 x (.ins C dx (putF f v fs)))) :
    sFld K (tVar 0) (anyE kk0 K te) f N σ H1 := by
  refine ⟨_, G1, S, P, R, ht, fun d S' p v H2 G2 s2 R2 dv => ⟨_, hσ, x, C, dx, fs, rfl, ?_, c, na, hl, next d S' v H2 G2 p s2 dv ?_⟩⟩
  · exact R2.fr x _ upd_same
  · obtain ⟨R3, f3, n3, e3⟩ := Rep.less fx bx R2
    exact (R3.wrD f3 n3).plus f3 n3 upd_same
theorem ok_init (T : Tz K mg) : FnOk P w K mg base (L2N.CX P w) 5 T.f_Marking____init__ T.d_Marking____init__ ["self", "states", "moves"] (spInit K T.c_BadMarking T.c_Marking) := by
  refine T.F_Marking____init__.ok (CX := L2N.CX P w) sc_Marking____init__ (fun vs H Q E h => ?_) (fun cv A out s H vs Q E hr h => ?_)
  · obtain ⟨x, dx, v1, v2, G, d1, d2, rfl, _⟩ := h; rfl
  obtain ⟨x, dx, v1, v2, G, d1, d2, rfl, hx, gx, gh, dv1, dv2, m1, m2, hok, hbad⟩ := h
  have lz := line_big
  obtain ⟨W2, eB, eF⟩ : ∃ W2 : Wd kk0, W2.B = G ∧ W2.F = fun a => if a = x then none else H a := ⟨⟨G, fun a => if a = x then none else H a, (fun a h => by cases h), fun a h => by cases h⟩, rfl, rfl⟩
  have nx : x ∉ kk0.dk := fun h => by cases h
  have fx : W2.F x = none := by rw [eF]; exact if_pos rfl
  have bx : W2.B x = none := by rw [eB]; exact gx
  have hg0 : ∀ a ∈ kk0.dk, G a = none := fun a h => by cases h
  have eW : Wd.of kk0 G H hg0 = W2.plus x (.ins T.c_Marking dx []) nx := by
    refine Wd.ext' eB.symm ?_
    funext a
    show (if a ∈ ([] : List Addr) then none else H a) = upd W2.F x _ a
    rw [if_neg (by simp)]
    by_cases e : a = x
    · subst e; rw [upd_same, hx]
    · rw [upd_ne e, eF]; exact (if_neg e).symm
  have F1 : ∀ a, (Wd.of kk0 G H hg0).F a = H a := fun a => by
    show (if a ∈ ([] : List Addr) then none else H a) = H a
    rw [if_neg (by simp)]
  have hF : ∀ a, (Wd.of kk0 G H hg0).F a = none → H a = none := fun a h => by rw [← F1 a]; exact h
  have R0 := rep_start (K := K) (k := kk0) (n := 0) (vs := [.ref x, v1, v2]) (ds := [.at (.ref x), d1, d2]) (N := ["self", "states", "moves", "state", "letter", "target"]) (by show 3 ≤ 6; decide) gh hg0 trivial (.cons (.at _) (.cons dv1 (.cons dv2 .nil)))
  have tk : L2N.Takes (cxOf (L2N.CX P w) P w K mg base ["self", "states", "moves", "state", "letter", "target"] "Marking.__init__" (defScope (inClass (top 13) 0)) T.f_Marking____init__ cv A out s H E) (wxZ (Wd.of kk0 G H hg0) T.c_BadMarking fun z => z = due d1 d2 ∧ due d1 d2 ≠ "") := by
    refine (L2N.takes_of rfl rfl rfl (E := E) rfl).imp fun c d σ H' h => ?_
    obtain ⟨rfl, z, dd, rfl, h1, h2, h3, rfl, h4⟩ := h
    refine hbad h4 dd H' (hF dd h2) h1 fun a o ha => h3 a o (by rw [F1]; exact ha)
  refine ⟨_, pss_cons (show DS _ (Wd.of kk0 G H hg0) _ _ from (ds_if (dt_w (dw_or (dt_not (dt_val (de_callK (ok_is_index T.toTx) (hr.mono (by first | decide | omega)) (by rfl) T.g_is_index T.F_is_index.kp (bd_is_index T.toTx) (da_cons (dn 1) (da_cons de_int da_nil))))) (dw_or1 (dt_cmp (DOpB.op (do_eq hr.units)) (dn 1) de_int)))) (dss_one (ds_raise (l := 1) rfl rfl tk hF T.xB T.iB T.fB (ok_badinit T.toTx) (hr.mono (by decide)) (bd_BadMarking____init__ T.toTx) (by rfl) T.gc_BadMarking)) dss_nil)) (pss_cons (show DS _ (Wd.of kk0 G H hg0) _ _ from (ds_if (dt_not (dt_val (de_callK (ok_is_moves T.toTx) (hr.mono (by first | decide | omega)) (by rfl) T.g_is_moves T.F_is_moves.kp (bd_is_moves T.toTx) (da_cons (dn 2) (da_cons (dn 1) da_nil))))) (dss_one (ds_raise (l := 1) rfl rfl tk hF T.xB T.iB T.fB (ok_badinit T.toTx) (hr.mono (by decide)) (bd_BadMarking____init__ T.toTx) (by rfl) T.gc_BadMarking)) dss_nil)) (pss_cons (ps_fld (pv 0) (pe_anyE (kk := kk0) fun _ => (dn 1)) rfl) (pss_cons (ps_fld (pv 0) (pe_anyE (kk := kk0) fun _ => (dn 2)) rfl) (pss_one (ps_fld (pv 0) (pe_anyE (kk := kk0) fun _ => (DO.de (do_dc (own := [("state", 3), ("letter", 4), ("target", 5)]) hr.units0 rfl sc_Marking____init__.nd (di_any (dn 2)) (blkOk_by (N := ["self", "states", "moves", "state", "letter", "target"]) (sc := defScope (inClass (top 13) 0)) (by decide +kernel)) (fun _ _ _ _ _ _ => (dg_tup (n := 3) rfl (dgs_cons (dg_name (i := 3) sc_Marking____init__.nd rfl (by first | exact .inl rfl | exact .inr rfl)) (dgs_cons (dg_name (i := 4) sc_Marking____init__.nd rfl (by first | exact .inl rfl | exact .inr rfl)) (dgs_cons (dg_name (i := 5) sc_Marking____init__.nd rfl (by first | exact .inl rfl | exact .inr rfl)) dgs_nil))))) (fun _ _ _ _ _ _ => (de_tup (da_cons (dn 3) (da_cons (dn 4) da_nil)))) (fun _ _ _ _ _ _ => (dn 5))))) rfl))))), ?_⟩
  generalize hS0 : (⟨startD ["self", "states", "moves", "state", "letter", "target"] [.at (.ref x), d1, d2], 0⟩ : Ds) = S0 at R0
  refine ⟨G, S0, { nx := fun S' => S' = S0 ∧ ∃ s, d1 = .int s ∧ 1 ≤ s ∧ s ≤ 999, rt := fun _ _ => False }, R0, ?_, ⟨?_, fun _ _ _ _ _ _ _ z => z.elim, fun _ _ _ _ _ z => z.elim, fun _ _ _ _ _ z => z.elim⟩⟩
  · subst hS0
    cases d1 with
    | int s =>
      conv => whnf
      refine ⟨_, _, rfl, 1000, rfl, rfl, ?_⟩
      conv => whnf
      refine onT_of (b := !isIdx 1000 (.int s)) (fun e => ?_) (fun e => ?_)
      · have e : ¬ (0 ≤ s ∧ s < 1000) := by
          have e : (!(decide (0 ≤ s) && decide (s < 1000))) = true := e
          rintro ⟨a1, a2⟩
          rw [decide_eq_true a1, decide_eq_true a2] at e
          cases e
        have ed : due (.int s) d2 = "states" := due_states (by omega)
        conv => whnf
        exact ⟨ed.symm, by rw [ed]; decide⟩
      · have e : 0 ≤ s ∧ s < 1000 := by
          have e : (!(decide (0 ≤ s) && decide (s < 1000))) = false := e
          simpa using e
        conv => whnf
        refine onT_of (b := decide (s = 0)) (fun e2 => ?_) (fun e2 => ?_)
        · have e2 := of_decide_eq_true e2
          have ed : due (.int s) d2 = "states" := due_states (by omega)
          conv => whnf
          exact ⟨ed.symm, by rw [ed]; decide⟩
        · have e2 := of_decide_eq_false e2
          conv => whnf
          exact ⟨rfl, s, rfl, by omega, by omega⟩
    | ins _ _ _ => cases m1
    | «at» _ => cases m1
    | _ =>
      conv => whnf
      refine ⟨_, _, rfl, 1000, rfl, rfl, ?_⟩
      conv => whnf
      exact ⟨rfl, by show ("states" : Str) ≠ ""; decide⟩
  rintro S' σ1 H1 G1 s1 ⟨rfl, s, rfl, hs1, hs2⟩ R1
  refine ⟨G1, S', { nx := fun S2 => S2 = S' ∧ isMoves s d2 = true, rt := fun _ _ => False }, R1, ?_, ⟨?_, fun _ _ _ _ _ _ _ z => z.elim, fun _ _ _ _ _ z => z.elim, fun _ _ _ _ _ z => z.elim⟩⟩
  · subst hS0
    conv => whnf
    refine ⟨_, _, rfl, s, rfl, anyM_any d2 m2, ?_⟩
    conv => whnf
    refine onT_of (b := !isMoves s d2) (fun e => ?_) (fun e => ?_)
    · have e : isMoves s d2 = false := by simpa using e
      have ed : due (.int s) d2 = "moves" := by rw [due_moves hs1 hs2, e]; rfl
      conv => whnf
      exact ⟨ed.symm, by rw [ed]; decide⟩
    · conv => whnf
      exact ⟨rfl, by simpa using e⟩
  rintro S2 σ2 H2 G2 s2 ⟨rfl, hm⟩ R2
  have hdue : due (.int s) d2 = "" := by rw [due_moves hs1 hs2, hm]; rfl
  have hσ : σ2[0]? = some (some (.ref x)) := by
    subst hS0
    obtain ⟨v, ev, dv⟩ := R2.sl 0 (.v (.at (.ref x))) rfl
    cases (show Dv K G2 v (.at (.ref x)) from dv)
    exact ev
  have R3 := R2.off (Off.refl' [0] σ2)
  subst hS0
  rw [eW] at R3
  have hG2 : Same G G2 := s1.trans s2
  obtain ⟨ds, rfl⟩ : ∃ ds, d2 = .tup ds := by
    cases d2 with
    | tup ds => exact ⟨ds, rfl⟩
    | _ => cases hm
  obtain ⟨as, rfl, hv, e3⟩ := moves_vr hs2 (List.all_eq_true.mp (Bool.and_eq_true_iff.mp (show (ds.all (isMove s) && _) = true from hm)).1)
  obtain ⟨hl2, _⟩ := anyM_tup.mp m2
  rw [List.length_map] at hl2
  refine st_fld (P := fun d S' => d = .int s ∧ S' = ⟨[none, some (.v (.int s)), some (.v (.tup (as.map rowD))), none, none, none], 0⟩) fx bx T.insM.cl T.noS (by decide) hσ R3 ⟨rfl, rfl⟩ ?_
  rintro d S3 w1 H3 G3 ⟨rfl, rfl⟩ s3 dw1 R4
  refine st_fld (P := fun d S' => d = .tup (as.map rowD) ∧ S' = ⟨[none, some (.v (.int s)), some (.v (.tup (as.map rowD))), none, none, none], 0⟩) fx bx T.insM.cl T.noM (by show 1 < 1000; decide) hσ R4 ⟨rfl, rfl⟩ ?_
  rintro d S4 w2 H4 G4 ⟨rfl, rfl⟩ s4 dw2 R5
  refine st_fld (P := fun d S' => d = stepsD (.tup (as.map rowD)) ∧ S' = ⟨[none, some (.v (.int s)), some (.v (.tup (as.map rowD))), none, none, none], 0⟩) fx bx T.insM.cl T.noT (by show 2 < 1000; decide) hσ R5 ?_ ?_
  · conv => whnf
    refine dc_rows (vs := []) as [] (by simp; omega) ⟨?_, rfl⟩
    show _ = D.dt ((stepsF ((as.map rowD).map t3Of) []).map (·.1)) ((stepsF ((as.map rowD).map t3Of) []).map (·.2))
    rw [e3]
  rintro d S5 w3 H5 G5 ⟨rfl, rfl⟩ s5 dw3 R6
  refine hok hdue _ G5 (hG2.trans (s3.trans (s4.trans s5))) R6.gh (fun a o e => ?_) (fun a o ne e => ?_) ?_ ⟨_, upd_same, rfl, .cons (Dv.up (s4.trans s5) _ _ dw1) (.cons (Dv.up s5 _ _ dw2) (.cons dw3 .nil))⟩
  · rcases R6.nw a o e with e | ⟨e, _⟩
    · left; rw [← eB]; exact e
    · right
      have e : upd W2.F x _ a = none := e
      by_cases h : a = x
      · rw [h, upd_same] at e; cases e
      · rw [upd_ne h, eF] at e
        exact (if_neg h).symm.trans e
  · refine R6.fr a o ?_
    show upd W2.F x _ a = some o
    rw [upd_ne ne, eF]
    exact (if_neg ne).trans e
  · cases q : G5 x with
    | none => rfl
    | some u =>
      rcases R6.nw x u q with e | ⟨e, _⟩
      · have e : W2.B x = some u := e
        rw [bx] at e; cases e
      · have e : upd W2.F x _ x = none := e
        rw [upd_same] at e; cases e
end
end K44
namespace K44
open PySem PySem.Spec PyProof.Rows L2 L2H Sw Dl Ss
section
variable {X : Cx} {CX : CXT} {k n : Nat} {f C : Addr} {fd : FuncData} {ps ks : List Str} {sp : Sp} {E : XK} {x : Str} {p pos : Pos} {e : Expr} {es : List Expr} {kws : List Keyword} {te ta : TE} {t tk : TA} {g : List Value → List Value → List Value} {gV : List V → List V → List V}
/-- C(k = e, ..), keywords alone -/
theorem pe_makeKw (M : Mk X.K C f) (F : FnOk X.prog X.w X.K X.mg X.base CX k f fd ps sp) (hr : Room (k + 1) X.A) (hg : Gl X x) (hm : X.mg x = some (.ref C)) (hb : KBn X.K fd ps 1 ks g gV) (hx : Passes CX X E)
    (hkw : PK X kws tk) (hdb : (x == ("__debug__" : Str)) = false := by decide) (hall : (backToKw pos (keywordEach kws X.env)).all (·.1.isSome) = true := by rfl) (hks : (backToKw pos (keywordEach kws X.env)).filterMap (·.1) = ks := by rfl)
    (hp : ((backTo pos (starEach [] X.env)).any (·.1) || (backToKw pos (keywordEach kws X.env)).any (·.1.isNone)) = false := by rfl) :
    PE X (.Call (.Name x p) [] kws pos) (fun σ H Q => tk σ H fun zs H2 => zs.length = ks.length ∧ ∀ x dx, H2 x = none → H2 dx = none → dx ≠ x → sp (gV [.ref x] zs) (upd (upd H2 dx (.own x)) x (.ins C dx [])) (fun v H3 => v = .non ∧ Q (.ref x) H3) E) := by
  refine ⟨fun pins s σ H Q I h => ?_⟩
  refine wpAny_Call_Name_kw (ld_glob I hg hm ?_ hdb)
  refine PySem.W.callWith_KW0 (h₀ := X.base) I.ok.mod.kin M.kp hall ?_ hp
  refine thn (hkw.run pos pins s σ H _ I h) fun ws s1 ⟨zs, H1, I1, rz, lz, q1⟩ => ⟨I1.kIn, ?_⟩
  rw [hks]
  exact run_makeN (n := 0) (us := []) (vs := []) M F hr hb hx I1 .nil rz rfl lz q1
/-- e.f of the caught error -/
def tXe (a : Addr) (cls : Value) (d : Option Addr) (C : Addr) (f : Str) (te : TE) : TE := fun σ H Q => te σ H fun x H1 => x = .ref a ∧ cls = .ref C ∧ ∃ (dd : Addr) (fs : List (Str × V)) (v : V), d = some dd ∧ H1 dd = some (exd dd fs) ∧ fs.lookup f = some v ∧ Q v H1
theorem pe_xe {a C : Addr} {oe : Obj} {cls : Value} {d : Option Addr} {pn : List (Addr × Obj)} {m : Str} (T : XcC X.K C) (hno : m ∈ fldN)
    (hz : Zc cls d oe) (hf : ∃ vs, oe.data = .fields vs) (he : PE (X.suite a ((a, oe) :: pn)) e te) (hb : attributeBase e m X.env (eval e X.env) = eval e X.env := by rfl) :
    PE (X.suite a ((a, oe) :: pn)) (.Attribute e m pos) (tXe a cls d C m te) := by
  refine ⟨fun pins s σ H Q I h => ?_⟩
  refine attr_of hb (thn (he.run pins s σ H _ I h) fun u s1 hh => ?_)
  obtain ⟨x, H1, I1, rx, ex, ec, dd, fs, v, ed, ea, l, q⟩ := hh
  subst ex
  obtain rfl : u = Value.ref a := rx
  subst ec
  subst ed
  obtain ⟨ha, _⟩ := I1.pin (a, oe) (List.mem_append_left _ List.mem_cons_self)
  obtain ⟨vs, hd⟩ := hf
  obtain ⟨mA, hns, hr⟩ := exd_at I1.hok ea
  obtain ⟨od, ho, hl⟩ := lookIn_ns hns
  obtain ⟨u, hu, ru⟩ := RelO.some_of (v := v) (o := mA m) (by rw [← l]; exact hr m)
  have J : PySem.W.InstAt s1.heap a oe C (some od) := ⟨ha, hz.1, by unfold PySem.W.notCls; rw [hd] <;> rfl, by rw [hz.2]; exact ho⟩
  exact HandSPX.exc_get I1.kIn J T.ga T.gg T.ex (PySem.W.findObj_own T.hd (T.no m hno) rfl (by rw [hl, hu])) (handed_of ru) ⟨v, H1, I1.tok _, ru, q⟩
end
theorem kb_n {K : PySem.W.Frag} {x q : Str} {pa : Arguments} {bo : List Stmt} {sc : Scope} {f : Addr} {fd : FuncData} {ps ks : List Str} {n : Nat} {g : List Value → List Value → List Value} {gV : List V → List V → List V} (F : FunD K x q pa bo sc [] [] f fd)
    (hrel : ∀ {vs : List V} {us : List Value} {zs : List V} {ws : List Value}, Vals vs us → Vals zs ws → Vals (gV vs zs) (g us ws))
    (h : ∀ (kV doc pm : Value) (an : Option Addr) (cv ct : Value) (us ws : List Value), us.length = n → ws.length = ks.length → bindArgs (PySem.W.fnOf x q pa bo sc .none kV doc pm an cv ct) ⟨us, ks.zip ws⟩ = pure (ps.zip (g us ws))) : KBn K fd ps n ks g gV := by
  obtain ⟨oc, od, dV, kV, doc, pm, an, cv, ct, osl, rfl, lk, hco, hD, _⟩ := F.ex
  rcases hD with ⟨_, rfl⟩ | ⟨e, _⟩
  · exact ⟨fun s us ws X l1 l2 => .of_eq (h kV doc pm an cv ct us ws l1 l2), hrel⟩
  · exact absurd rfl e
end K44
namespace K44
open PySem PySem.Spec PyProof.Rows L2 L2H Sw Dl Ss
def g2t {α : Type} : List α → List α → List α
  | [a], [x, y] => [a, y, x]
  | _, _ => []
theorem g2t_rel {vs : List V} {us : List Value} {zs : List V} {ws : List Value} (r : Vals vs us) (q : Vals zs ws) : Vals (g2t vs zs) (g2t us ws) := by
  cases r with
  | nil => exact .nil
  | cons r1 r2 =>
    cases r2 with
    | cons _ _ => exact .nil
    | nil =>
      cases q with
      | nil => exact .nil
      | cons q1 q2 =>
        cases q2 with
        | nil => exact .nil
        | cons q3 q4 =>
          cases q4 with
          | nil => exact .cons r1 (.cons q3 (.cons q1 .nil))
          | cons _ _ => exact .nil
/-- what is heard -/
def heard (C : Addr) (x y : D) : D := if due x y = "" then .ins C markN (markD x y) else .lst [.str "bad", .str (due x y), .bl true]
section
variable {P : Program} {w : World} {K : PySem.W.Frag} {mg : Str → Option Value} {base : Heap} {k : Dek}
def spHeard (C : Addr) : DSp := fun ds n P => ∃ x y b, ds = [x, y, b] ∧ ∃ nm, b = .bl nm ∧ anyM 62 x = true ∧ anyM 62 y = true ∧ P (heard C x y) n
def tSuite (K : PySem.W.Frag) (CB CS : Addr) (a : Addr) (cls : Value) (d : Option Addr) : TS := fun D σ H => ∀ oe : Obj, L2N.Zn cls d oe → (∃ vs, oe.data = .fields vs) →
  tAsg (tLst (tCons (tC (.str "bad")) (tCons (tXe a cls d CB "part" (tVar 4)) (tCons (tCB (fun xs H Q => ∃ (C : Addr) (c : V) (u : Value) (b : Bool), xs = [.ref a, c] ∧ Xp (a, oe) H C ∧ XcC K C ∧ ClsV c u ∧ PySem.W.kitOne K (.ref C) u = some b ∧ Q (.bl b) H) (tCons (tVar 4) (tCons (tC (.ref CS)) tNil))) tNil)))) (gName 3) D σ H
theorem ok__law_heard (T : Tz K mg) : FnK P w K mg base 7 T.f__law_heard T.d__law_heard ["_law_size", "_law_lot", "_law_is_named"] k (spHeard T.c_Marking) := by
  have FI : FnOk P w K mg base (L2N.CX P w) 5 T.f_Marking____init__ T.d_Marking____init__ ["self", "states", "moves"] (spInit K T.c_BadMarking T.c_Marking) := ok_init T
  have kB : KBn K T.d_Marking____init__ ["self", "states", "moves"] 1 ["moves", "states"] g2t g2t := kb_n T.F_Marking____init__ g2t_rel fun _ _ _ _ _ _ us ws l1 l2 => match us, l1, ws, l2 with | [_], _, [_, _], _ => rfl
  have bB : Binds K T.d_Marking____init__ ["self", "states", "moves"] [] := bd_Marking____init__ T.toTx
  refine T.F__law_heard.ok sc__law_heard (fun vs H Q E ⟨G, ds, n, P, _, _, _, dv, ⟨_, _, _, h, _⟩, _⟩ => by rw [dva_len dv, h]; rfl) fun cdv A out s H vs Q E hr ⟨G, ds, n, R, sGH, hg, hd, dv, ⟨x, y, b, hds, nm, hb, m1, m2, hp⟩, q⟩ => ?_
  subst hds hb
  obtain ⟨v1, v2, rfl, dv1, dv2⟩ : ∃ v1 v2, vs = [v1, v2, .bl nm] ∧ Dv K G v1 x ∧ Dv K G v2 y := by
    cases dv with
    | cons a1 a2 =>
      cases a2 with
      | cons b1 b2 =>
        cases b2 with
        | cons c1 c2 => cases c1; cases c2; exact ⟨_, _, rfl, a1, b1⟩
  refine ⟨_, PSs.nox (pss_cons (ps_set (i := 3) sc__law_heard.nd rfl (Or.inl rfl) pe_non)
    (pss_cons (L2N.ps_try_as (i := 4) (Wout := fun _ _ _ _ => False) (c := .ref T.c_BadMarking) (ts := tSuite K T.c_BadMarking T.c_StreamError) rfl rfl sc__law_heard.nd rfl rfl ⟨by rfl, by decide, .inl T.gc_BadMarking⟩ (fun u s' ⟨_, _, _, _, _, _, _, _, _, _, _, _, _, _, _, _, z⟩ => z.elim)
      (fun W pn xe tk _ => pss_one (ps_set (i := 3) sc__law_heard.nd rfl (Or.inl rfl) (pe_ifExp (pt_val (pv 2))
        (pe_makeKw (E := fun cls d H => ∀ σ : L2.St, σ.length = 5 → W cls d σ H) T.mkM FI hr (by rfl) T.gc_Marking kB (fun pins σ H s e s' I c => tk e s' (L2N.XE.of_call I (fun cls d H' h => h σ I.len) c)) (pk_cons (pv 1) (pk_cons (pv 0) pk_nil)))
        (pe_make (E := fun cls d H => ∀ σ : L2.St, σ.length = 5 → W cls d σ H) T.mkM FI hr (by rfl) T.gc_Marking bB .nil (fun pins σ H s e s' I c => tk e s' (L2N.XE.of_call I (fun cls d H' h => h σ I.len) c)) (pa_cons (pv 0) (pa_cons (pv 1) pa_nil))))))
      (fun a oe cls d pn hz hf => pss_one ⟨fun pins s σ H D I h => (ps_set (i := 3) sc__law_heard.nd rfl (Or.inl rfl) (pe_lst (pa_cons pe_str (pa_cons (pe_xe T.xB (by decide) hz.zc hf (pv 4)) (pa_cons (pe_callB (call_xisH (q := (a, oe)) T.xG (List.mem_cons_self ..)) (by rfl) T.b_isinstance boot_isinstance (pa_cons (pv 4) (pa_cons (pe_glob (v := .ref T.c_StreamError) (by rfl) T.gc_StreamError rfl) pa_nil))) pa_nil))))).run pins s σ H D I (h oe hz hf)⟩))
    (pss_one (ps_ret (pv 3))))), ?_⟩
  have main : ∀ (Qx : VK) (Ex : XK), (∀ xa H', (∃ G'', Same G G'' ∧ Same G'' H' ∧ (∀ a o, G'' a = some o → G a = some o ∨ (H a = none ∧ a ∉ k.dk)) ∧ (∀ a o, H a = some o → a ∉ k.dk → H' a = some o) ∧ k.deck H' n ∧ due x y = "" ∧ Dv K G'' (.ref xa) (.ins T.c_Marking markN (markD x y))) → Qx (.ref xa) H') →
      (∀ dd H', due x y ≠ "" → H' dd = some (exd dd [("part", .str (due x y))]) → Same H H' → Ex (.ref T.c_BadMarking) (some dd) H') →
      ∀ xa dx, H xa = none → H dx = none → dx ≠ xa → spInit K T.c_BadMarking T.c_Marking [.ref xa, v1, v2] (upd (upd H dx (.own xa)) xa (.ins T.c_Marking dx [])) (fun v H2 => v = .non ∧ Qx (.ref xa) H2) Ex := fun Qx Ex hQ hE xa dx hxa hdx hne => by
    have old : ∀ a o, H a = some o → a ≠ xa ∧ a ≠ dx := fun a o e => ⟨ne_of_none e hxa, ne_of_none e hdx⟩
    have s1 : Same H (upd (upd H dx (.own xa)) xa (.ins T.c_Marking dx [])) := fun a o e => by
      obtain ⟨a1, a2⟩ := old a o e
      rw [upd_ne a1, upd_ne a2]; exact e
    have dkx : ∀ a, H a = none → a ∉ k.dk := fun a e m => k.tr H n hd a m e
    refine ⟨xa, dx, v1, v2, G, x, y, rfl, upd_same, sGH.free hxa, sGH.trans s1, dv1, dv2, m1, m2, fun hdue H' G' z1 z2 z3 z4 z5 z6 => ⟨rfl, hQ xa H' ?_⟩, fun hdue dd H' hn hdd z => hE dd H' hdue hdd (s1.trans z)⟩
    obtain ⟨fs, f1, f2, f3⟩ := z6
    have hH : ∀ a o, H a = some o → H' a = some o := fun a o e => z4 a o (old a o e).1 (s1 a o e)
    have g := same_upd (o := .ins T.c_Marking dx fs) z5
    refine ⟨upd G' xa (.ins T.c_Marking dx fs), z1.trans g, fun a o e => ?_, fun a o e => ?_, fun a o e _ => hH a o e, k.st H H' n hd fun a m => ?_, hdue, ?_⟩
    · by_cases h : a = xa
      · subst h; rw [upd_same] at e; cases e; exact f1
      · rw [upd_ne h] at e; exact z2 a o e
    · by_cases h : a = xa
      · subst h; exact .inr ⟨hxa, dkx _ hxa⟩
      · rw [upd_ne h] at e
        rcases z3 a o e with e | e
        · exact .inl e
        · have : H a = none := by
            cases q : H a with
            | none => rfl
            | some u => rw [s1 a u q] at e; cases e
          exact .inr ⟨this, dkx _ this⟩
    · cases q : H a with
      | none => exact absurd m (dkx a q)
      | some u => exact hH a u q
    · rw [← f2]
      exact .ins upd_same (DvAll.up g _ _ f3)
  have okE : ∀ xa H', (∃ G'', Same G G'' ∧ Same G'' H' ∧ (∀ a o, G'' a = some o → G a = some o ∨ (H a = none ∧ a ∉ k.dk)) ∧ (∀ a o, H a = some o → a ∉ k.dk → H' a = some o) ∧ k.deck H' n ∧ due x y = "" ∧ Dv K G'' (.ref xa) (.ins T.c_Marking markN (markD x y))) → Q (.ref xa) H' := fun xa H' ⟨G'', a1, a2, a3, a4, a5, a6, a7⟩ => by
    have eh : heard T.c_Marking x y = .ins T.c_Marking markN (markD x y) := if_pos a6
    rw [eh] at hp
    exact q _ n hp _ H' G'' a1 a2 a3 a4 a5 a7
  have badE : ∀ (H' : Hp) p, due x y ≠ "" → Same H H' → H' p = none → Q (.ref p) (upd H' p (.lst [.str "bad", .str (due x y), .bl true])) := fun H' p hdue z hpn => by
    have eh : heard T.c_Marking x y = .lst [.str "bad", .str (due x y), .bl true] := if_neg hdue
    rw [eh] at hp
    have hH0 : H p = none := z.free hpn
    have g := same_upd (o := .lst [.str "bad", .str (due x y), .bl true]) (sGH.free hH0)
    refine q _ n hp _ _ (upd G p (.lst [.str "bad", .str (due x y), .bl true])) g (fun a o e => ?_) (fun a o e => ?_) (fun a o e _ => ?_) (k.st H _ n hd fun a m => ?_) (.lst upd_same (.cons (.str _) (.cons (.str _) (.cons (.bl _) .nil))))
    · by_cases h : a = p
      · subst h; rw [upd_same] at e ⊢; exact e
      · rw [upd_ne h] at e ⊢; exact z a o (sGH a o e)
    · by_cases h : a = p
      · subst h; exact .inr ⟨hH0, fun m => k.tr H n hd _ m hH0⟩
      · rw [upd_ne h] at e; exact .inl e
    · rw [upd_ne (ne_of_none e hH0)]; exact z a o e
    · cases q : H a with
      | none => exact absurd q (k.tr H n hd a m)
      | some u => rw [upd_ne (ne_of_none q hH0)]; exact z a u q
  have excE : ∀ (D : Ends) dd H', due x y ≠ "" → H' dd = some (exd dd [("part", .str (due x y))]) → Same H H' → (∀ (σ : L2.St) (H2 : Hp) (v : V), σ[3]? = some (some v) → Q v H2 → D.nx σ H2) → ∀ σ : L2.St, σ.length = 5 → wAs K (.ref T.c_BadMarking) 4 (tSuite K T.c_BadMarking T.c_StreamError) (fun _ _ _ _ => False) D (.ref T.c_BadMarking) (some dd) σ H' := fun D dd H' hdue hdd z hD σ hl => by
    refine ⟨true, T.exmB, fun _ a ha oe hz hf => ?_, fun z => by cases z⟩
    have e4 : (σ.set 4 (some (.ref a)))[4]? = some (some (V.ref a)) := by rw [List.getElem?_set_self (by omega)]
    refine ⟨_, e4, rfl, rfl, dd, _, _, rfl, hdd, rfl, _, e4, T.c_BadMarking, .ref T.c_StreamError, .ref T.c_StreamError, true, rfl, ⟨hz.1, hf, .inr ⟨dd, _, hz.2.1, hdd⟩⟩, T.xB, .own _, T.kitB, by show 3 ≤ sizeLine; decide, fun p hp => ?_⟩
    refine hD _ _ (.ref p) ?_ (badE H' p hdue z hp)
    rw [List.getElem?_set_ne (by decide), List.getElem?_set_self (by rw [List.length_set]; omega)]
  refine ⟨_, rfl, nm, rfl, ?_⟩
  have hD : ∀ (σ : L2.St) (H2 : Hp) (v : V), σ[3]? = some (some v) → Q v H2 → (fun (σ' : L2.St) (H' : Hp) => ∃ v, σ'[3]? = some (some v) ∧ Q v H') σ H2 := fun σ H2 v e h => ⟨v, e, h⟩
  cases nm with
  | true =>
    refine iteT ⟨v2, rfl, v1, rfl, rfl, ?_⟩
    refine main (fun v H2 => ∃ u, (List.set (List.set (L2.start ["_law_size", "_law_lot", "_law_is_named", "_law_found", "e"] [v1, v2, .bl true]) 3 (some V.non)) 3 (some v))[3]? = some (some u) ∧ Q u H2)
      (fun cls d H => ∀ σ : L2.St, σ.length = 5 → wAs K (.ref T.c_BadMarking) 4 (tSuite K T.c_BadMarking T.c_StreamError) (fun _ _ _ _ => False) { nx := fun σ' H' => ∃ v, σ'[3]? = some (some v) ∧ Q v H', rt := Q } cls d σ H) ?_ ?_
    · intro xa H' h
      exact ⟨_, rfl, okE xa H' h⟩
    · intro dd H' h1 h2 h3 σ hl
      exact excE _ dd H' h1 h2 h3 hD σ hl
  | false =>
    refine iteF ⟨v1, rfl, v2, rfl, ?_⟩
    refine main (fun v H2 => ∃ u, (List.set (List.set (L2.start ["_law_size", "_law_lot", "_law_is_named", "_law_found", "e"] [v1, v2, .bl false]) 3 (some V.non)) 3 (some v))[3]? = some (some u) ∧ Q u H2)
      (fun cls d H => ∀ σ : L2.St, σ.length = 5 → wAs K (.ref T.c_BadMarking) 4 (tSuite K T.c_BadMarking T.c_StreamError) (fun _ _ _ _ => False) { nx := fun σ' H' => ∃ v, σ'[3]? = some (some v) ∧ Q v H', rt := Q } cls d σ H) ?_ ?_
    · intro xa H' h
      exact ⟨_, rfl, okE xa H' h⟩
    · intro dd H' h1 h2 h3 σ hl
      exact excE _ dd H' h1 h2 h3 hD σ hl
end
end K44
namespace K44
open PySem PySem.Spec PyProof.Rows L2 L2H Sw Dl Ss
/-! ### a marking that stands -/
def mk (C : Addr) (s : Int) (as : List Row3) : D := .ins C markN (markD (.int s) (.tup (as.map rowD)))
structure OkM (s : Int) (as : List Row3) : Prop where
  s1 : 1 ≤ s
  s2 : s ≤ 999
  v : ∀ r ∈ as, VR r
  l : as.length ≤ 62
  k : (as.map t2).Nodup
theorem gd_rows {as : List Row3} (v : ∀ r ∈ as, VR r) (l : as.length ≤ 62) : Gd 2 500 (.tup (as.map rowD)) := by
  refine Gd.up (Gd.tup (a := 1) (b := 6) fun d hd => ?_) (Nat.le_refl _) (by rw [List.length_map]; omega)
  obtain ⟨r, hr, rfl⟩ := List.mem_map.mp hd
  exact gd_row (vr_sm (v r hr))
theorem eqD_rowsT (as bs : List Row3) : eqD (.tup (as.map rowD)) (.tup (bs.map rowD)) = decide (as = bs) := eqv_rows as bs
section
variable {P : Program} {w : World} {K : PySem.W.Frag} {mg : Str → Option Value} {base : Heap} {k : Dek}
def spEqM (C : Addr) : DSp := fun ds n P => ∃ x y, ds = [x, y] ∧ ∃ s as, x = mk C s as ∧ OkM s as ∧ ((∃ s2 as2, y = mk C s2 as2 ∧ OkM s2 as2 ∧ P (.bl (decide (s = s2) && decide (as = as2))) n) ∨ (plain y = true ∧ P (.bl false) n))
theorem ok_eqM (T : Tz K mg) : FnK P w K mg base 1 T.f_Marking____eq__ T.d_Marking____eq__ ["self", "other"] k (spEqM T.c_Marking) := by
  refine fnk_of T.F_Marking____eq__ sc_Marking____eq__ (fun ds n P h => ?_) fun cv A out s H E W ds n Q hr h => ?_
  · obtain ⟨_, _, rfl, _⟩ := h; rfl
  obtain ⟨x, y, rfl, s, as, rfl, om, hy⟩ := h
  refine ⟨_, (dss_one (ds_ret (de_and (de_isC T.insM T.yesM T.noK (by rfl) T.b_isinstance (dn 1) (pe_glob (v := .ref T.c_Marking) (by rfl) T.gc_Marking rfl)) (de_and (de_cmp (DOpB.op (do_eq hr.units)) (de_fld T.insM.cl T.noS (dn 0)) (de_fld T.insM.cl T.noS (dn 1))) (de_one (de_cmp (DOpB.op (do_eq hr.units)) (de_fld T.insM.cl T.noM (dn 0)) (de_fld T.insM.cl T.noM (dn 1)))))))), ?_⟩
  rcases hy with ⟨s2, as2, rfl, om2, hq⟩ | ⟨hp, hq⟩
  · conv => whnf
    refine ⟨rfl, ?_⟩
    conv => whnf
    refine ⟨_, _, _, rfl, rfl, _, _, _, rfl, rfl, ?_⟩
    conv => whnf
    refine onB_of (b := decide (s = s2)) (fun e => ?_) (fun e => ?_)
    · conv => whnf
      refine ⟨_, _, _, rfl, rfl, _, _, _, rfl, rfl, ?_⟩
      conv => whnf
      refine ⟨(gd_rows om.v om.l).good, (gd_rows om2.v om2.l).good, ?_⟩
      rw [e, Bool.true_and, ← eqD_rowsT] at hq
      exact hq
    · rw [e, Bool.false_and] at hq
      exact hq
  · conv => whnf
    cases y with
    | ins _ _ _ => exact absurd hp Bool.false_ne_true
    | «at» _ => exact absurd hp Bool.false_ne_true
    | _ => exact ⟨trivial, hq⟩
/-! ### told -/
def toldF (acc : List (List Key × D)) : List Nat → D → D
  | [], st => st
  | c :: cs, .int i => toldF acc cs ((getK acc [.inl i, .inr (chr c)]).getD .non)
  | _ :: cs, _ => toldF acc cs .non
theorem toldF_non (acc : List (List Key × D)) : ∀ cs : List Nat, toldF acc cs .non = .non
  | [] => rfl
  | _ :: cs => toldF_non acc cs
theorem steps_map : ∀ (as : List Row3) (acc : List (List Key × D)), (as.map t2).Nodup → (∀ p ∈ acc, ∀ r ∈ as, p.1 ≠ [.inl r.1, .inr r.2]) → stepsF as acc = acc ++ as.map fun r => ([.inl r.1, .inr r.2], .int r.3)
  | [], acc, _, _ => by rw [List.map_nil, List.append_nil]; rfl
  | r :: as, acc, nd, h => by
    obtain ⟨n1, n2⟩ := List.nodup_cons.mp (show (t2 r :: as.map t2).Nodup from nd)
    have ep : putD acc [.inl r.1, .inr r.2] (.int r.3) = acc ++ [([.inl r.1, .inr r.2], .int r.3)] := by
      unfold putD
      rw [if_neg]
      rw [List.any_eq_true]
      rintro ⟨p, hp, e⟩
      exact h p hp r (by simp) (of_decide_eq_true e)
    show stepsF as (putD acc _ _) = _
    rw [ep, steps_map as _ n2 fun p hp q hq => ?_, List.append_assoc]
    · rfl
    · rcases List.mem_append.mp hp with hp | hp
      · exact h p hp q (List.mem_cons_of_mem _ hq)
      · rw [List.mem_singleton.mp hp]
        intro e
        injection e with e1 e2
        injection e1 with e1
        injection e2 with e2 _
        injection e2 with e2
        refine n1 (List.mem_map.mpr ⟨q, hq, ?_⟩)
        show ((q.1, q.2) : Int × Str) = (r.1, r.2)
        rw [e1, e2]
theorem get_steps (as : List Row3) (i : Int) (z : Str) : getK (as.map fun r => (([.inl r.1, .inr r.2] : List Key), D.int r.3)) [.inl i, .inr z] = (as.find? fun r => decide (r.1 = i) && decide (r.2 = z)).map fun r => .int r.3 := by
  unfold getK
  rw [List.find?_map]
  have ef : ((fun p : List Key × D => decide (p.1 = [Sum.inl i, Sum.inr z])) ∘ fun r : Row3 => (([.inl r.1, .inr r.2] : List Key), D.int r.3)) = fun r => decide (r.1 = i) && decide (r.2 = z) := by
    funext r
    show decide (([.inl r.1, .inr r.2] : List Key) = [.inl i, .inr z]) = _
    rw [Bool.eq_iff_iff]
    simp
  rw [ef, Option.map_map]; rfl
theorem told_beh {as : List Row3} (nd : (as.map t2).Nodup) : ∀ (cs : List Nat) (i : Int), toldF (stepsF as []) cs (.int i) = beh as cs i
  | [], _ => rfl
  | c :: cs, i => by
    show toldF (stepsF as []) cs ((getK (stepsF as []) [.inl i, .inr (chr c)]).getD .non) = _
    rw [steps_map as [] nd (fun p hp => by cases hp), List.nil_append, get_steps]
    show _ = (match as.find? fun r => decide (r.1 = i) && decide (r.2 = chr c) with
      | none => D.non
      | some r => beh as cs r.3)
    cases as.find? fun r => decide (r.1 = i) && decide (r.2 = chr c) with
    | none => exact toldF_non _ cs
    | some r =>
      have := told_beh nd cs r.3
      rw [steps_map as [] nd (fun p hp => by cases hp), List.nil_append] at this
      exact this
def spTold (C : Addr) : DSp := fun ds n P => ∃ x y, ds = [x, y] ∧ ∃ s as z, x = mk C s as ∧ OkM s as ∧ y = .str z ∧ z.length ≤ 1000 ∧ P (beh as z.cps.toList.reverse 0) n
theorem ok_told (T : Tz K mg) : FnK P w K mg base 1 T.f_Marking__told T.d_Marking__told ["self", "text"] k (spTold T.c_Marking) := by
  refine fnk_of T.F_Marking__told sc_Marking__told (fun ds n P h => ?_) fun cv A out s H E W ds n Q hr h => ?_
  · obtain ⟨_, _, rfl, _⟩ := h; rfl
  obtain ⟨x, y, rfl, s, as, z, rfl, om, rfl, hz, hq⟩ := h
  refine ⟨_, (dss_cons (ds_set (i := 2) sc_Marking__told.nd rfl (by first | exact .inl rfl | exact .inr rfl) de_int)
      (dss_cons (ds_for PassesOwn.never rfl (di_revS (by rfl) T.b_reversed (dn 1)) (dg_name (i := 3) sc_Marking__told.nd rfl (by first | exact .inl rfl | exact .inr rfl)) (dss_one (ds_set (i := 2) sc_Marking__told.nd rfl (by first | exact .inl rfl | exact .inr rfl) (de_get hr.units (de_fld T.insM.cl T.noT (dn 0)) (de_tup (da_cons (dn 2) (da_cons (dn 3) da_nil))) ⟨rfl, rfl, rfl, rfl⟩))))
      (dss_one (ds_ret (dn 2))))), ?_⟩
  conv => whnf
  refine ⟨by omega, ?_⟩
  conv => whnf
  refine forL_J (fun (ds : List D) (S : Ds) => ∃ (cs : List Nat) (st : D) (v : Option Sl), ds = cs.map (fun c => .str (chr c)) ∧ S = ⟨[some (.v (mk T.c_Marking s as)), some (.v (.str z)), some (.v st), v], n⟩ ∧ ((∃ i, st = .int i) ∨ st = .non) ∧ Q (toldF (stepsF as []) cs st) n) _ _ ?_ ?_
    ⟨_, .int 0, _, rfl, rfl, .inl ⟨0, rfl⟩, by rw [told_beh om.k]; exact hq⟩
  · rintro d ds' S - ⟨cs, st, v, e, rfl, hst, hQ⟩ N hN
    cases cs with
    | nil => cases e
    | cons c cs =>
      injection e with e1 e2
      subst e1 e2
      have est : (as.map rowD).map t3Of = as := by rw [List.map_map]; exact List.map_id as
      conv => whnf
      refine ⟨_, _, _, rfl, rfl, stepsF as [], ?_, ?_⟩
      · show stepsD (.tup (as.map rowD)) = _
        show D.dt ((stepsF ((as.map rowD).map t3Of) []).map (·.1)) ((stepsF ((as.map rowD).map t3Of) []).map (·.2)) = _
        rw [est]
      · conv => whnf
        refine ⟨by show 2 ≤ sizeLine; decide, ?_⟩
        conv => whnf
        refine ⟨_, rfl, ?_⟩
        rcases hst with ⟨i, rfl⟩ | rfl
        · refine .inl ⟨[.inl i, .inr (chr c)], rfl, ?_⟩
          conv => whnf
          refine hN _ ⟨cs, _, _, rfl, rfl, ?_, hQ⟩
          rw [steps_map as [] om.k (fun p hp => by cases hp), List.nil_append, get_steps]
          cases as.find? fun r => decide (r.1 = i) && decide (r.2 = chr c) with
          | none => exact .inr rfl
          | some r => exact .inl ⟨_, rfl⟩
        · refine .inr ⟨[none, some (.inr (chr c))], rfl, by simp, ?_⟩
          conv => whnf
          exact hN _ ⟨cs, .non, _, rfl, rfl, .inr rfl, hQ⟩
  · rintro S ⟨cs, st, v, e, rfl, hst, hQ⟩
    cases cs with
    | nil => exact hQ
    | cons _ _ => cases e
end
end K44
namespace K44
open PySem PySem.Spec PyProof.Rows L2 L2H Sw Dl Ss
/-! ### what is shown of a marking's parts tells them -/
abbrev sh (d : PyData) : List Nat := d.shown.cps.toList
theorem cut_at {k : Nat} : ∀ {a b x y : List Nat}, k ∉ a → k ∉ b → a ++ k :: x = b ++ k :: y → a = b ∧ x = y
  | [], [], _, _, _, _, e => by injection e with _ e; exact ⟨rfl, e⟩
  | [], c :: b, _, _, _, hb, e => by injection e with e _; exact absurd (by rw [e]; simp) hb
  | c :: a, [], _, _, ha, _, e => by injection e with e _; exact absurd (by rw [e]; simp) ha
  | c :: a, d :: b, x, y, ha, hb, e => by
    injection e with e1 e2
    obtain ⟨h1, h2⟩ := cut_at (fun h => ha (List.mem_cons_of_mem _ h)) (fun h => hb (List.mem_cons_of_mem _ h)) e2
    exact ⟨by rw [e1, h1], h2⟩
def vd (l : List Nat) : Nat := l.foldl (fun a c => a * 10 + (c - 48)) 0
theorem vd_all : ∀ n : Nat, n < 1000 → vd (sh (.int (n : Int))) = n := by decide +kernel
theorem sh_int_inj {i j : Int} (hi : 0 ≤ i ∧ i < 1000) (hj : 0 ≤ j ∧ j < 1000) (e : sh (.int i) = sh (.int j)) : i = j := by
  obtain ⟨n, rfl⟩ : ∃ n : Nat, i = (n : Int) := ⟨i.toNat, by omega⟩
  obtain ⟨m, rfl⟩ : ∃ m : Nat, j = (m : Int) := ⟨j.toNat, by omega⟩
  have h1 := vd_all n (by omega)
  have h2 := vd_all m (by omega)
  rw [e, h2] at h1
  rw [h1]
theorem int_no44 (i : Int) : 44 ∉ sh (.int i) := shown_int_free' ⟨by decide, by decide⟩ i
theorem int_no41 (i : Int) : 41 ∉ sh (.int i) := shown_int_free' ⟨by decide, by decide⟩ i
theorem str_sh : ∀ c : Nat, c < 123 → 97 ≤ c → sh (.str (chr c)) = [39, c, 39] := by decide +kernel
def Rt (r : Row3) : List Nat := 40 :: (sh (.int r.1) ++ 44 :: 32 :: 39 :: (cd r.2).toNat :: 39 :: 44 :: 32 :: (sh (.int r.3) ++ [41]))
theorem tup_sh (x y : PyData) (zs : List PyData) : sh (.tuple (x :: y :: zs)) = 40 :: ((Str.join ", " (PyData.shownAll (x :: y :: zs))).cps.toList ++ [41]) := by
  have e : (PyData.tuple (x :: y :: zs)).shown = ("(" : Str) ++ Str.join ", " (PyData.shownAll (x :: y :: zs)) ++ (")" : Str) := by
    rw [PyData.shown_tuple]; rfl
  show (PyData.tuple (x :: y :: zs)).shown.cps.toList = _
  rw [e, cat_codes, cat_codes]; rfl
theorem join_two (a b : Str) (r : List Str) : (Str.join ", " (a :: b :: r)).cps.toList = a.cps.toList ++ 44 :: 32 :: (Str.join ", " (b :: r)).cps.toList := by
  show (a ++ ", " ++ Str.join ", " (b :: r)).cps.toList = _
  rw [cat_codes, cat_codes, List.append_assoc]; rfl
theorem row_sh {r : Row3} (v : VR r) : sh (toPy (rowD r)) = Rt r := by
  obtain ⟨c, ec, h1, h2⟩ := v.b
  have e3 : sh (.str r.2) = [39, c, 39] := by rw [ec]; exact str_sh c (by omega) h1
  have ecd : (cd r.2).toNat = c := by rw [ec]; rfl
  show sh (.tuple [.int r.1, .str r.2, .int r.3]) = _
  rw [tup_sh]
  show 40 :: ((Str.join ", " [(PyData.int r.1).shown, (PyData.str r.2).shown, (PyData.int r.3).shown]).cps.toList ++ [41]) = _
  rw [join_two, join_two]
  show 40 :: ((sh (.int r.1) ++ 44 :: 32 :: (sh (.str r.2) ++ 44 :: 32 :: sh (.int r.3))) ++ [41]) = _
  rw [e3, Rt, ecd]
  simp
theorem Rt_inj {r q : Row3} (v : VR r) (u : VR q) {X Y : List Nat} (e : Rt r ++ X = Rt q ++ Y) : r = q ∧ X = Y := by
  obtain ⟨c, ec, c1, c2⟩ := v.b
  obtain ⟨d, ed, d1, d2⟩ := u.b
  have e : 40 :: (sh (.int r.1) ++ 44 :: (32 :: 39 :: (cd r.2).toNat :: 39 :: 44 :: 32 :: (sh (.int r.3) ++ 41 :: X))) = 40 :: (sh (.int q.1) ++ 44 :: (32 :: 39 :: (cd q.2).toNat :: 39 :: 44 :: 32 :: (sh (.int q.3) ++ 41 :: Y))) := by
    simpa [Rt] using e
  injection e with _ e
  obtain ⟨e1, e⟩ := cut_at (int_no44 _) (int_no44 _) e
  injection e with _ e
  injection e with _ e
  injection e with e2 e
  injection e with _ e
  injection e with _ e
  injection e with _ e
  obtain ⟨e3, e⟩ := cut_at (int_no41 _) (int_no41 _) e
  refine ⟨?_, e⟩
  have f1 := sh_int_inj ⟨v.a0, v.a1⟩ ⟨u.a0, u.a1⟩ e1
  have f3 := sh_int_inj ⟨v.c0, v.c1⟩ ⟨u.c0, u.c1⟩ e3
  have f2 : r.2 = q.2 := by
    rw [ec, ed, cd_chr, cd_chr] at e2
    rw [ec, ed]
    exact chr_inj.mpr (by simpa using e2)
  obtain ⟨r1, r2, r3⟩ := r
  obtain ⟨q1, q2, q3⟩ := q
  dsimp only at f1 f2 f3
  rw [f1, f2, f3]
def Jr : List Row3 → List Nat
  | [] => []
  | [r] => Rt r
  | r :: q :: t => Rt r ++ 44 :: 32 :: Jr (q :: t)
theorem join_rows : ∀ {as : List Row3}, (∀ r ∈ as, VR r) → (Str.join ", " (PyData.shownAll (toPys (as.map rowD)))).cps.toList = Jr as
  | [], _ => rfl
  | [r], v => row_sh (v r (by simp))
  | r :: q :: t, v => by
    show (Str.join ", " ((toPy (rowD r)).shown :: (toPy (rowD q)).shown :: PyData.shownAll (toPys (t.map rowD)))).cps.toList = _
    rw [join_two]
    show sh (toPy (rowD r)) ++ 44 :: 32 :: (Str.join ", " (PyData.shownAll (toPys ((q :: t).map rowD)))).cps.toList = _
    rw [row_sh (v r (by simp)), join_rows fun x hx => v x (List.mem_cons_of_mem _ hx)]
    rfl
theorem Jr_inj : ∀ {as bs : List Row3} {X Y : List Nat}, as ≠ [] → bs ≠ [] → (∀ r ∈ as, VR r) → (∀ r ∈ bs, VR r) → Jr as ++ 41 :: X = Jr bs ++ 41 :: Y → as = bs
  | [], _, _, _, h, _, _, _, _ => absurd rfl h
  | _, [], _, _, _, h, _, _, _ => absurd rfl h
  | [a], [b], _, _, _, _, va, vb, e => by
    obtain ⟨h, _⟩ := Rt_inj (va a (by simp)) (vb b (by simp)) e
    rw [h]
  | [a], b :: c :: t, X, Y, _, _, va, vb, e => by
    have e : Rt a ++ 41 :: X = Rt b ++ (44 :: 32 :: (Jr (c :: t) ++ 41 :: Y)) := by simpa [Jr] using e
    obtain ⟨_, h⟩ := Rt_inj (va a (by simp)) (vb b (by simp)) e
    injection h with h _
    exact absurd h (by decide)
  | a :: c :: t, [b], X, Y, _, _, va, vb, e => by
    have e : Rt a ++ (44 :: 32 :: (Jr (c :: t) ++ 41 :: X)) = Rt b ++ 41 :: Y := by simpa [Jr] using e
    obtain ⟨_, h⟩ := Rt_inj (va a (by simp)) (vb b (by simp)) e
    injection h with h _
    exact absurd h (by decide)
  | a :: c :: t, b :: d :: u, X, Y, _, _, va, vb, e => by
    have e : Rt a ++ (44 :: 32 :: (Jr (c :: t) ++ 41 :: X)) = Rt b ++ (44 :: 32 :: (Jr (d :: u) ++ 41 :: Y)) := by simpa [Jr] using e
    obtain ⟨h1, h⟩ := Rt_inj (va a (by simp)) (vb b (by simp)) e
    injection h with _ h
    injection h with _ h
    rw [h1, Jr_inj (by simp) (by simp) (fun x hx => va x (List.mem_cons_of_mem _ hx)) (fun x hx => vb x (List.mem_cons_of_mem _ hx)) h]
theorem rows_sh {as : List Row3} (v : ∀ r ∈ as, VR r) : sh (.tuple (toPys (as.map rowD))) = 40 :: (Jr as ++ (if as.length = 1 then [44, 41] else [41])) := by
  show (PyData.tuple (toPys (as.map rowD))).shown.cps.toList = _
  have el : (toPys (as.map rowD)).length = as.length := by rw [toPys_map, List.length_map, List.length_map]
  rw [PyData.shown_tuple, cat_codes, cat_codes, join_rows v, el]
  by_cases h : as.length = 1
  · rw [if_pos h, show (as.length == 1) = true by simpa using h]; rfl
  · rw [if_neg h, show (as.length == 1) = false by simpa using h]; rfl
theorem rows_inj {as bs : List Row3} (va : ∀ r ∈ as, VR r) (vb : ∀ r ∈ bs, VR r) {X Y : List Nat} (e : sh (.tuple (toPys (as.map rowD))) ++ X = sh (.tuple (toPys (bs.map rowD))) ++ Y) : as = bs := by
  rw [rows_sh va, rows_sh vb] at e
  injection e with _ e
  have r40 : ∀ r : Row3, ∃ t, Rt r = 40 :: t := fun r => ⟨_, rfl⟩
  match as, bs, va, vb, e with
  | [], [], _, _, _ => rfl
  | [], [b], _, _, e => obtain ⟨t, h⟩ := r40 b; simp [Jr, h] at e
  | [], b :: c :: t, _, _, e => obtain ⟨t, h⟩ := r40 b; simp [Jr, h] at e
  | [a], [], _, _, e => obtain ⟨t, h⟩ := r40 a; simp [Jr, h] at e
  | a :: c :: t, [], _, _, e => obtain ⟨t, h⟩ := r40 a; simp [Jr, h] at e
  | [a], [b], va, vb, e =>
    have e : Rt a ++ ([44, 41] ++ X) = Rt b ++ ([44, 41] ++ Y) := by simpa [Jr] using e
    rw [(Rt_inj (va a (by simp)) (vb b (by simp)) e).1]
  | [a], b :: c :: t, va, vb, e =>
    have e : Rt a ++ ([44, 41] ++ X) = Rt b ++ (44 :: 32 :: (Jr (c :: t) ++ ([41] ++ Y))) := by simpa [Jr] using e
    have h := (Rt_inj (va a (by simp)) (vb b (by simp)) e).2
    simp at h
  | a :: c :: t, [b], va, vb, e =>
    have e : Rt a ++ (44 :: 32 :: (Jr (c :: t) ++ ([41] ++ X))) = Rt b ++ ([44, 41] ++ Y) := by simpa [Jr] using e
    have h := (Rt_inj (va a (by simp)) (vb b (by simp)) e).2
    simp at h
  | a :: c :: t, b :: d :: u, va, vb, e =>
    have e : Jr (a :: c :: t) ++ 41 :: X = Jr (b :: d :: u) ++ 41 :: Y := by simpa using e
    exact Jr_inj (by simp) (by simp) va vb e
theorem all_sh (s : Int) (as : List Row3) : sh (.tuple [.int s, .tuple (toPys (as.map rowD))]) = 40 :: (sh (.int s) ++ 44 :: 32 :: (sh (.tuple (toPys (as.map rowD))) ++ [41])) := by
  rw [tup_sh]
  show 40 :: ((Str.join ", " [(PyData.int s).shown, (PyData.tuple (toPys (as.map rowD))).shown]).cps.toList ++ [41]) = _
  rw [join_two]
  show 40 :: ((sh (.int s) ++ 44 :: 32 :: sh (.tuple (toPys (as.map rowD)))) ++ [41]) = _
  simp
theorem shown_inj {s u : Int} {as bs : List Row3} (o : OkM s as) (p : OkM u bs) : (PyData.tuple [.int s, .tuple (toPys (as.map rowD))]).shown = (PyData.tuple [.int u, .tuple (toPys (bs.map rowD))]).shown ↔ s = u ∧ as = bs := by
  constructor
  · intro e
    have e : sh (.tuple [.int s, .tuple (toPys (as.map rowD))]) = sh (.tuple [.int u, .tuple (toPys (bs.map rowD))]) := by show (PyData.shown _).cps.toList = _; rw [e]
    rw [all_sh, all_sh] at e
    injection e with _ e
    obtain ⟨e1, e⟩ := cut_at (int_no44 _) (int_no44 _) e
    injection e with _ e
    have := o.s1
    have := o.s2
    have := p.s1
    have := p.s2
    exact ⟨sh_int_inj (by omega) (by omega) e1, rows_inj o.v p.v e⟩
  · rintro ⟨rfl, rfl⟩; rfl
end K44
namespace K44
open PySem PySem.Spec PyProof.Rows L2 L2H Sw Dl Ss
theorem bef_ck {r q : Row3} (h : r.2 = chr 97 ∨ r.2 = chr 98) (g : q.2 = chr 97 ∨ q.2 = chr 98) (b : Bef r q) : ck r < ck q := by
  have h1 : cd r.2 = 97 ∨ cd r.2 = 98 := h.imp (fun e => by rw [e]; rfl) fun e => by rw [e]; rfl
  have h2 : cd q.2 = 97 ∨ cd q.2 = 98 := g.imp (fun e => by rw [e]; rfl) fun e => by rw [e]; rfl
  unfold ck
  rcases b with b | ⟨b1, b2, b3⟩
  · omega
  · rw [b2, b3, cd_chr, cd_chr]; omega
theorem asc_ck {as : List Row3} (v : ∀ r ∈ as, VR r) : ascB (as.map t2) = true ↔ as.Pairwise fun a b => ck a < ck b := by
  have := asc_pw (f := fun p : Int × Str => p.1 * 256 + cd p.2) (as := as.map t2) fun a ha b hb => by
    obtain ⟨r, hr, rfl⟩ := List.mem_map.mp ha
    obtain ⟨q, hq, rfl⟩ := List.mem_map.mp hb
    exact lt2 (v r hr) (v q hq)
  rw [this, List.pairwise_map]; rfl
theorem nodup_ck {as : List Row3} (h : as.Pairwise fun a b => ck a < ck b) (v : ∀ r ∈ as, VR r) : (as.map t2).Nodup := by
  refine List.pairwise_map.mpr (List.Pairwise.imp_of_mem ?_ h)
  intro a b ha hb h3 e
  have := (ck_inj (v a ha) (v b hb)).mpr e
  omega
theorem wh_ok {sz : Int} {as : List Row3} (h1 : 1 ≤ sz) (h5 : sz ≤ 5) (w : Wh sz sz as) : OkM sz as ∧ due (.int sz) (.tup (as.map rowD)) = "" := by
  have v : ∀ r ∈ as, VR r := fun r hr => by
    obtain ⟨a1, a2, a3, a4, a5⟩ := w.rows r hr
    exact ⟨a1, by omega, a3.elim (fun e => ⟨97, e, by decide, by decide⟩) fun e => ⟨98, e, by decide, by decide⟩, a4, by omega⟩
  have p2 : as.Pairwise fun a b => ck a < ck b := List.Pairwise.imp_of_mem (fun ha hb h => bef_ck (w.rows _ ha).2.2.1 (w.rows _ hb).2.2.1 h) w.asc
  have p3 : as.Pairwise fun a b => rk a < rk b := List.Pairwise.imp_of_mem (fun ha hb h => (ck_rk (v _ ha) (v _ hb)).1 h) p2
  have l : as.length ≤ 62 := by have := w.few; omega
  refine ⟨⟨h1, by omega, v, l, nodup_ck p2 v⟩, ?_⟩
  rw [due_moves h1 (by omega)]
  have hall : (as.map rowD).all (isMove sz) = true := by
    rw [List.all_eq_true]
    intro d hd
    obtain ⟨r, hr, rfl⟩ := List.mem_map.mp hd
    obtain ⟨a1, a2, a3, a4, a5⟩ := w.rows r hr
    have el : isLet (.str r.2) = true := by rcases a3 with e | e <;> rw [e] <;> decide
    show (isIdx sz (.int r.1) && isLet (.str r.2) && isIdx sz (.int r.3)) = true
    have e1 : isIdx sz (.int r.1) = true := by show (decide (0 ≤ r.1) && decide (r.1 < sz)) = true; simp [a1, a2]
    have e3 : isIdx sz (.int r.3) = true := by show (decide (0 ≤ r.3) && decide (r.3 < sz)) = true; simp [a4, a5]
    rw [e1, e3, el]; rfl
  have e : isMoves sz (.tup (as.map rowD)) = true := by
    show ((as.map rowD).all (isMove sz) && (ascB ((as.map rowD).map t3Of) && ascB ((as.map rowD).map t2Of))) = true
    rw [hall, List.map_map, List.map_map]
    show (true && (ascB (as.map id) && ascB (as.map t2))) = true
    rw [List.map_id, (asc_pw (f := rk) fun a ha b hb => lt3 (v a ha) (v b hb)).mpr p3, (asc_ck v).mpr p2]; rfl
  rw [e]; rfl
theorem due_ok {x y : D} (hy : anyM 62 y = true) (h : due x y = "") : ∃ s as, x = .int s ∧ y = .tup (as.map rowD) ∧ OkM s as := by
  cases x with
  | int s =>
    by_cases hs : 1 ≤ s ∧ s ≤ 999
    · rw [due_moves hs.1 hs.2] at h
      have hm : isMoves s y = true := by
        by_cases e : isMoves s y = true
        · exact e
        · rw [if_neg e] at h; exact absurd h (by decide)
      cases y with
      | tup ds =>
        obtain ⟨m1, m2⟩ := Bool.and_eq_true_iff.mp (show (ds.all (isMove s) && (ascB (ds.map t3Of) && ascB (ds.map t2Of))) = true from hm)
        obtain ⟨as, rfl, hv, e3⟩ := moves_vr hs.2 (List.all_eq_true.mp m1)
        obtain ⟨hl, _⟩ := anyM_tup.mp hy
        rw [List.length_map] at hl
        have e2 : ascB (as.map t2) = true := by
          have := (Bool.and_eq_true_iff.mp m2).2
          rw [List.map_map] at this
          exact this
        exact ⟨s, as, rfl, rfl, ⟨hs.1, hs.2, hv, hl, nodup_ck ((asc_ck hv).mp e2) hv⟩⟩
      | _ => cases hm
    · rw [due_states hs] at h; exact absurd h (by decide)
  | _ => exact absurd h (by show ¬ ("states" : Str) = ""; decide)
theorem due_vals (x y : D) : due x y = "" ∨ due x y = "states" ∨ due x y = "moves" := by
  cases x with
  | int s =>
    by_cases hs : 1 ≤ s ∧ s ≤ 999
    · rw [due_moves hs.1 hs.2]
      by_cases e : isMoves s y = true
      · rw [if_pos e]; exact .inl rfl
      · rw [if_neg e]; exact .inr (.inr rfl)
    · exact .inr (.inl (due_states hs))
  | _ => exact .inr (.inl rfl)
section
variable {P : Program} {w : World} {K : PySem.W.Frag} {mg : Str → Option Value} {base : Heap} {k : Dek} {dd ll : Addr}
def spBentU (d : Addr) : DSp := fun ds n P => ∃ j, j ≤ 9 ∧ spBent j d ds n P
theorem ok_bentU (T : Tx K mg) : FnK P w K mg base 12 T.f__law_bent T.d__law_bent ["_law_deck_here", "_law_it"] (deckD dd ll) (spBentU dd) := by
  refine ⟨fun vs H Q E ⟨G, ds, n, R, _, _, _, dv, ⟨j, hj, ⟨_, _, h, _⟩⟩, _⟩ => by rw [dva_len dv, h]; rfl, fun A out s H args us vs Q E hr he hb rv ⟨G, ds, n, R, h1, h2, h3, h4, ⟨j, hj, h5⟩, h6⟩ => ?_⟩
  exact ((ok__law_bent (dd := dd) (ll := ll) T j).mono (by omega : 3 + j ≤ 12)).run A out s H args us vs Q E hr he hb rv ⟨G, ds, n, R, h1, h2, h3, h4, h5, h6⟩
theorem seq4 {t0 t1 t2 u : DST} {E : DEnds} {S : Ds} (Mid : Ds → Prop) (h2 : ∀ S', Mid S' → u E S') (h1 : ∀ N : Ds → Prop, (∀ S', Mid S' → N S') → dSeq t0 (dSeq t1 t2) { E with nx := N } S) : dSeq t0 (dSeq t1 (dSeq t2 u)) E S := h1 (u E) h2
theorem seq3 {t1 t2 u : DST} {E : DEnds} {S : Ds} (Mid : Ds → Prop) (h2 : ∀ S', Mid S' → u E S') (h1 : ∀ N : Ds → Prop, (∀ S', Mid S' → N S') → dSeq t1 t2 { E with nx := N } S) : dSeq t1 (dSeq t2 u) E S := h1 (u E) h2
theorem beh_small {as : List Row3} (v : ∀ r ∈ as, VR r) : ∀ (cs : List Nat) (i : Int), i.natAbs < 10 ^ 7 → (∃ j : Int, beh as cs i = .int j ∧ j.natAbs < 10 ^ 7) ∨ beh as cs i = .non
  | [], i, h => .inl ⟨i, rfl, h⟩
  | c :: cs, i, h => by
    show (∃ j : Int, (match as.find? fun r => decide (r.1 = i) && decide (r.2 = chr c) with
      | none => D.non
      | some r => beh as cs r.3) = .int j ∧ _) ∨ (match as.find? fun r => decide (r.1 = i) && decide (r.2 = chr c) with
      | none => D.non
      | some r => beh as cs r.3) = .non
    cases e : as.find? fun r => decide (r.1 = i) && decide (r.2 = chr c) with
    | none => exact .inr rfl
    | some r => exact beh_small v cs r.3 (vr_sm (v r (List.mem_of_find?_eq_some e))).c
theorem gd_beh {as : List Row3} (v : ∀ r ∈ as, VR r) (cs : List Nat) : Gd 0 0 (beh as cs 0) := by
  rcases beh_small v cs 0 (by decide) with ⟨j, e, h⟩ | e
  · rw [e]; exact gd_int h
  · rw [e]; exact gd_non
theorem eqv_behs {as : List Row3} (v : ∀ r ∈ as, VR r) : ∀ l : List (List Nat), PyData.eqvAll (toPys (l.map fun cs => beh as cs 0)) (toPys (l.map fun cs => beh as cs 0)) = true
  | [] => rfl
  | cs :: l => by
    have h1 : PyData.eqv (toPy (beh as cs 0)) (toPy (beh as cs 0)) = true := by
      rcases beh_small v cs 0 (by decide) with ⟨j, e, h⟩ | e
      · rw [e]; show (j == j) = true; simp
      · rw [e]; rfl
    show (PyData.eqv (toPy (beh as cs 0)) (toPy (beh as cs 0)) && PyData.eqvAll (toPys (l.map fun cs => beh as cs 0)) (toPys (l.map fun cs => beh as cs 0))) = true
    rw [h1, eqv_behs v l]; rfl
theorem bd_row {r : Row3} {m : Nat} (h : r.2.length ≤ m) (hm : 3 ≤ m) : Bd 1 m (rowD r) := by
  refine bd_tup.mpr ⟨hm, fun d hd => ?_⟩
  rcases List.mem_cons.mp hd with rfl | hd
  · exact ⟨rfl, Nat.zero_le _⟩
  rcases List.mem_cons.mp hd with rfl | hd
  · exact bd_str h
  · rw [List.mem_singleton.mp hd]; exact ⟨rfl, Nat.zero_le _⟩
theorem gd_whole {s : Int} {as : List Row3} (o : OkM s as) : GoodD (.tup [.int s, .tup (as.map rowD)]) := by
  have := o.s1
  have := o.s2
  refine (Gd.tup (a := 2) (b := 500) fun d hd => ?_).good (by decide) (by show 501 * 2 ≤ _; decide)
  rcases List.mem_cons.mp hd with rfl | hd
  · exact (gd_int (by omega)).up (by decide) (by decide)
  · rw [List.mem_singleton.mp hd]; exact gd_rows o.v o.l
theorem gd_bad {z : Str} (h : z = "states" ∨ z = "moves") : Gd 1 21 (.lst [.str "bad", .str z, .bl true]) := by
  refine Gd.up (Gd.lst (a := 0) (b := 6) fun d hd => ?_) (Nat.le_refl _) (by show 7 * 3 ≤ 21; decide)
  rcases List.mem_cons.mp hd with rfl | hd
  · exact gd_str (by decide) (by decide)
  rcases List.mem_cons.mp hd with rfl | hd
  · rcases h with rfl | rfl <;> exact gd_str (by decide) (by decide)
  · rw [List.mem_singleton.mp hd]; exact gd_bl.up (Nat.le_refl _) (by decide)
theorem heard_ok {C : Addr} {s : Int} {as : List Row3} (h : due (.int s) (.tup (as.map rowD)) = "") : heard C (.int s) (.tup (as.map rowD)) = mk C s as := if_pos h
theorem heard_bad {C : Addr} {x y : D} (h : due x y ≠ "") : heard C x y = .lst [.str "bad", .str (due x y), .bl true] := if_neg h
@[irreducible] def shownI (d : D) : Str := (toPy d).shown
theorem shownI_eq (d : D) : shownI d = (toPy d).shown := by unfold shownI; rfl
def dReprI (ds : List D) (P : D → Prop) : Prop := match ds with
  | [d] => GoodD d ∧ P (.str (shownI d))
  | _ => False
theorem dc_reprI {kk : Dek} {X : Cx} {W : Wd kk} (hG : X.A.guards = some []) (hu : X.A.units + 64 < cLine) : DCal X W (.builtin "repr") dReprI := (dc_repr hG hu).imp fun ds P h => by
  match ds, h with
  | [d], h => exact ⟨h.1, by rw [← shownI_eq]; exact h.2⟩
/-- the law, behind its first row -/
theorem law_rest (T : Tz K mg) {cv : Value} {A : Around} {out : List Env} {s : Shared} {H : Hp} {E : XK} (hG : (A.deeper (envOfC "law" (defScope (top 25)) s.heap.objs.size T.f_law cv)).guards = some []) (hr : Room 14 (A.deeper (envOfC "law" (defScope (top 25)) s.heap.objs.size T.f_law cv))) (W : Wd (deckD dd ll)) (a : Addr) :
    ∃ t, DSs (cxOf CX0 P w K mg base ["_law_script", "_law_deck_here", "_law_whole", "_law_bent_here", "_law_turn", "_law_one", "_law_due_here", "_law_told", "_law_pages", "_law_at", "_law_it", "_law_page_here", "_law_go"] "law" (defScope (top 25)) T.f_law cv A out s H E).nox W ((defBody (top 25)).tail) t ∧
      t { nx := fun _ => False, rt := fun d _ => d = .bl true } ⟨startD ["_law_script", "_law_deck_here", "_law_whole", "_law_bent_here", "_law_turn", "_law_one", "_law_due_here", "_law_told", "_law_pages", "_law_at", "_law_it", "_law_page_here", "_law_go"] [.at (.ref a), dkD dd], 0⟩ := by
  have lz := line_big
  refine ⟨_, (dss_cons (ds_set (i := 2) sc_law.nd rfl (by first | exact .inl rfl | exact .inr rfl) (de_callK (ok__law_drawn T.toTx) (hr.mono (by first | decide | omega)) (by rfl) T.g__law_drawn T.F__law_drawn.kp (bd__law_drawn T.toTx) (da_cons (dn 1) da_nil)))
      (dss_cons (ds_set (i := 3) sc_law.nd rfl (by first | exact .inl rfl | exact .inr rfl) (de_tup (da_cons (de_ix (dn 2) de_int (fun _ _ => rfl)) (da_cons (de_ix (dn 2) de_int (fun _ _ => rfl)) da_nil))))
      (dss_cons (ds_for PassesOwn.never rfl (di_range1 (by rfl) T.b_range (da_cons (de_op do_op_add de_int (de_callK (ok__law_draw T.toTx) (hr.mono (by first | decide | omega)) (by rfl) T.g__law_draw T.F__law_draw.kp (bd__law_draw T.toTx) (da_cons (dn 1) (da_cons de_int da_nil)))) da_nil)) (dg_name (i := 4) sc_law.nd rfl (by first | exact .inl rfl | exact .inr rfl)) (dss_cons (ds_set (i := 9) sc_law.nd rfl (by first | exact .inl rfl | exact .inr rfl) (de_callK (ok__law_draw T.toTx) (hr.mono (by first | decide | omega)) (by rfl) T.g__law_draw T.F__law_draw.kp (bd__law_draw T.toTx) (da_cons (dn 1) (da_cons de_int da_nil))))
      (dss_one (ds_set (i := 3) sc_law.nd rfl (by first | exact .inl rfl | exact .inr rfl) (de_if (dt_cmp (DOpB.op (do_eq hr.units)) (dn 9) de_int) (de_tup (da_cons (de_callK (ok_bentU (T.toTx)) (hr.mono (by first | decide | omega)) (by rfl) T.g__law_bent T.F__law_bent.kp (bd__law_bent T.toTx) (da_cons (dn 1) (da_cons (de_ix (dn 3) de_int (fun _ _ => rfl)) da_nil))) (da_cons (de_ix (dn 3) de_int (fun _ _ => rfl)) da_nil))) (de_tup (da_cons (de_ix (dn 3) de_int (fun _ _ => rfl)) (da_cons (de_callK (ok_bentU (T.toTx)) (hr.mono (by first | decide | omega)) (by rfl) T.g__law_bent T.F__law_bent.kp (bd__law_bent T.toTx) (da_cons (dn 1) (da_cons (de_ix (dn 3) de_int (fun _ _ => rfl)) da_nil))) da_nil))))))))
      (dss_cons (ds_asg (de_tup (da_cons (de_callK (ok__law_heard (T)) (hr.mono (by first | decide | omega)) (by rfl) T.g__law_heard T.F__law_heard.kp (bd__law_heard T.toTx) (da_cons (de_ix (dn 2) de_int (fun _ _ => rfl)) (da_cons (de_ix (dn 2) de_int (fun _ _ => rfl)) (da_cons de_bl da_nil)))) (da_cons (de_callK (ok__law_due T.toTx) (hr.mono (by first | decide | omega)) (by rfl) T.g__law_due T.F__law_due.kp (bd__law_due T.toTx) (da_cons (de_ix (dn 3) de_int (fun _ _ => rfl)) (da_cons (de_ix (dn 3) de_int (fun _ _ => rfl)) da_nil))) da_nil))) (dg_tup (n := 2) rfl (dgs_cons (dg_name (i := 5) sc_law.nd rfl (by first | exact .inl rfl | exact .inr rfl)) (dgs_cons (dg_name (i := 6) sc_law.nd rfl (by first | exact .inl rfl | exact .inr rfl)) dgs_nil))))
      (dss_cons (ds_if (dt_w (dw_or (dt_not (dt_val (de_isC T.insM T.yesM T.noK (by rfl) T.b_isinstance (dn 5) (pe_glob (v := .ref T.c_Marking) (by rfl) T.gc_Marking rfl)))) (dw_or1 (dt_cmp (DOpB.op (do_ne hr.units)) (de_callB (dc_reprI hG hr.units) (by rfl) T.b_repr (by decide +kernel) (da_cons (de_tup (da_cons (de_fld T.insM.cl T.noS (dn 5)) (da_cons (de_fld T.insM.cl T.noM (dn 5)) da_nil))) da_nil)) (de_callB (dc_reprI hG hr.units) (by rfl) T.b_repr (by decide +kernel) (da_cons (dn 2) da_nil)))))) (dss_one (ds_ret de_bl)) dss_nil)
      (dss_cons (ds_set (i := 7) sc_law.nd rfl (by first | exact .inl rfl | exact .inr rfl) (DO.de (do_lst (da_cons (de_callK (ok__law_heard (T)) (hr.mono (by first | decide | omega)) (by rfl) T.g__law_heard T.F__law_heard.kp (bd__law_heard T.toTx) (da_cons (de_ix (dn 3) de_int (fun _ _ => rfl)) (da_cons (de_ix (dn 3) de_int (fun _ _ => rfl)) (da_cons de_bl da_nil)))) (da_cons (de_callK (ok__law_heard (T)) (hr.mono (by first | decide | omega)) (by rfl) T.g__law_heard T.F__law_heard.kp (bd__law_heard T.toTx) (da_cons (de_ix (dn 3) de_int (fun _ _ => rfl)) (da_cons (de_ix (dn 3) de_int (fun _ _ => rfl)) (da_cons de_bl da_nil)))) da_nil)))))
      (dss_cons (ds_if (dt_w (dw_and (dt_cmp (DOpB.op (do_ne hr.units)) (dn 6) de_str) (dw_and1 (dt_cmp (DOpB.op (do_ne hr.units)) (de_callB (dc_reprI hG hr.units) (by rfl) T.b_repr (by decide +kernel) (da_cons (dn 7) da_nil)) (de_callB (dc_reprI hG hr.units) (by rfl) T.b_repr (by decide +kernel) (da_cons (de_op do_op_mul (DO.de (do_lst (da_cons (DO.de (do_lst (da_cons de_str (da_cons (dn 6) (da_cons de_bl da_nil))))) da_nil))) de_int) da_nil)))))) (dss_one (ds_ret de_bl)) dss_nil)
      (dss_cons (ds_if (dt_cmp (DOpB.op (do_eq hr.units)) (dn 6) de_str) (dss_cons (ds_if (dt_w (dw_or (dt_cmp (DOpB.op (do_ne hr.units)) (de_callB (dc_reprI hG hr.units) (by rfl) T.b_repr (by decide +kernel) (da_cons (de_tup (da_cons (de_fld T.insM.cl T.noS (de_ix (dn 7) de_int (fun _ _ => rfl))) (da_cons (de_fld T.insM.cl T.noM (de_ix (dn 7) de_int (fun _ _ => rfl))) da_nil))) da_nil)) (de_callB (dc_reprI hG hr.units) (by rfl) T.b_repr (by decide +kernel) (da_cons (dn 3) da_nil))) (dw_or1 (dt_not (dt_ownEq T.insM (ok_eqM (T)) (hr.mono (by decide)) T.eqM T.eqF (bd_Marking____eq__ (T.toTx)) T.nf (de_ix (dn 7) de_int (fun _ _ => rfl)) (de_ix (dn 7) de_int (fun _ _ => rfl))))))) (dss_one (ds_ret de_bl)) dss_nil)
      (dss_one (ds_if (dt_cmp (DOpB.op (do_ne hr.units)) (de_ownEq T.insM (ok_eqM (T)) (hr.mono (by decide)) T.eqM T.eqF (bd_Marking____eq__ (T.toTx)) T.nf (de_ix (dn 7) de_int (fun _ _ => rfl)) (dn 5)) (de_cmp (DOpB.op (do_eq hr.units)) (de_callB (dc_reprI hG hr.units) (by rfl) T.b_repr (by decide +kernel) (da_cons (dn 3) da_nil)) (de_callB (dc_reprI hG hr.units) (by rfl) T.b_repr (by decide +kernel) (da_cons (dn 2) da_nil)))) (dss_one (ds_ret de_bl)) dss_nil))) dss_nil)
      (dss_cons (ds_if (dt_cmp (DOpB.op (do_ne hr.units)) (DO.de (do_lc (own := [("_law_it", 10)]) rfl sc_law.nd (di_any (de_tup (da_cons de_non (da_cons (dn 2) (da_cons (de_ix (dn 2) de_int (fun _ _ => rfl)) (da_cons de_int (da_cons (de_tup da_nil) da_nil))))))) (blkOk_by (N := ["_law_script", "_law_deck_here", "_law_whole", "_law_bent_here", "_law_turn", "_law_one", "_law_due_here", "_law_told", "_law_pages", "_law_at", "_law_it", "_law_page_here", "_law_go"]) (sc := defScope (top 25)) (by decide +kernel)) (fun _ _ _ _ _ _ => (dg_name (i := 10) sc_law.nd rfl (by first | exact .inl rfl | exact .inr rfl))) (fun _ _ _ _ _ _ => (dts_one (dt_ownEq T.insM (ok_eqM (T)) (hr.mono (by decide)) T.eqM T.eqF (bd_Marking____eq__ (T.toTx)) T.nf (dn 5) (dn 10)))) (fun _ _ _ _ _ _ => (dn 10)))) (DO.de (do_lst da_nil))) (dss_one (ds_ret de_bl)) dss_nil)
      (dss_cons (ds_set (i := 8) sc_law.nd rfl (by first | exact .inl rfl | exact .inr rfl) (de_op do_op_add (de_op do_op_add (DO.de (do_lst (da_cons de_str (da_cons de_str (da_cons de_str (da_cons de_str da_nil)))))) (DO.de (do_lc (own := [("_law_go", 12)]) rfl sc_law.nd (di_range1 (by rfl) T.b_range (da_cons de_int da_nil)) (blkOk_by (N := ["_law_script", "_law_deck_here", "_law_whole", "_law_bent_here", "_law_turn", "_law_one", "_law_due_here", "_law_told", "_law_pages", "_law_at", "_law_it", "_law_page_here", "_law_go"]) (sc := defScope (top 25)) (by decide +kernel)) (fun _ _ _ _ _ _ => (dg_name (i := 12) sc_law.nd rfl (by first | exact .inl rfl | exact .inr rfl))) (fun _ _ _ _ _ _ => dts_nil) (fun _ _ _ _ _ _ => (de_callK (ok__law_page T.toTx) (hr.mono (by first | decide | omega)) (by rfl) T.g__law_page T.F__law_page.kp (bd__law_page T.toTx) (da_cons (dn 1) (da_cons de_str (da_cons de_int da_nil)))))))) (DO.de (do_lst (da_cons (de_callK (ok__law_page T.toTx) (hr.mono (by first | decide | omega)) (by rfl) T.g__law_page T.F__law_page.kp (bd__law_page T.toTx) (da_cons (dn 1) (da_cons de_str (da_cons de_int da_nil)))) da_nil)))))
      (dss_one (ds_ret (de_cmp (DOpB.op (do_eq hr.units)) (DO.de (do_lc (own := [("_law_page_here", 11)]) rfl sc_law.nd (di_any (dn 8)) (blkOk_by (N := ["_law_script", "_law_deck_here", "_law_whole", "_law_bent_here", "_law_turn", "_law_one", "_law_due_here", "_law_told", "_law_pages", "_law_at", "_law_it", "_law_page_here", "_law_go"]) (sc := defScope (top 25)) (by decide +kernel)) (fun _ _ _ _ _ _ => (dg_name (i := 11) sc_law.nd rfl (by first | exact .inl rfl | exact .inr rfl))) (fun _ _ _ _ _ _ => dts_nil) (fun _ _ _ _ _ _ => (de_meth (dn 5) T.insM.cl T.told (ok_told (T)) (hr.mono (by decide)) (bd_Marking__told (T.toTx)) (da_cons (dn 11) da_nil))))) (DO.de (do_lc (own := [("_law_page_here", 11)]) rfl sc_law.nd (di_any (dn 8)) (blkOk_by (N := ["_law_script", "_law_deck_here", "_law_whole", "_law_bent_here", "_law_turn", "_law_one", "_law_due_here", "_law_told", "_law_pages", "_law_at", "_law_it", "_law_page_here", "_law_go"]) (sc := defScope (top 25)) (by decide +kernel)) (fun _ _ _ _ _ _ => (dg_name (i := 11) sc_law.nd rfl (by first | exact .inl rfl | exact .inr rfl))) (fun _ _ _ _ _ _ => dts_nil) (fun _ _ _ _ _ _ => (de_callK (ok__law_behind T.toTx) (hr.mono (by first | decide | omega)) (by rfl) T.g__law_behind T.F__law_behind.kp (bd__law_behind T.toTx) (da_cons (de_ix (dn 2) de_int (fun _ _ => rfl)) (da_cons (dn 11) da_nil))))))))))))))))))), ?_⟩
  conv => whnf
  refine ⟨_, rfl, rfl, by first | omega | (dsimp only; omega), fun sz as n1 hz1 hz5 wh hn1 => ?_⟩
  have hn1 : n1 ≤ 30 := hn1
  obtain ⟨om, hdue⟩ := wh_ok hz1 hz5 wh
  have hfew := wh.few
  conv => whnf
  refine ⟨(fun z e => by cases e), ?_⟩
  conv => whnf
  refine ⟨(fun z e => by cases e), ?_⟩
  conv => whnf
  refine ⟨by show 2 ≤ sizeLine; decide, ?_⟩
  conv => whnf
  refine ⟨3, rfl, by first | omega | (dsimp only; omega), by decide, by decide, fun t0 ht0 ht1 => ?_⟩
  conv => whnf
  refine ⟨by omega, ?_⟩
  obtain ⟨m, em⟩ : ∃ m : Nat, 1 + t0 = (m : Int) := ⟨(1 + t0).toNat, by omega⟩
  rw [em]
  have el : (upto 0 ((m : Int)).toNat).length = m := by unfold upto; rw [List.length_map, List.length_range]; omega
  refine forL_J (fun (ds : List D) (S : Ds) => ∃ (j : Nat) (b0 b1 : D) (v4 v9 : Option Sl) (dr : Int), ds.length + j = m ∧ S = ⟨[some (.v (.at (.ref a))), some (.v (dkD dd)), some (.v (.tup [.int sz, .tup (as.map rowD)])), some (.v (.tup [b0, b1])), v4, none, none, none, none, v9, none, none, none], dr⟩ ∧
      Bd (2 + 3 * j) (10 + 2 * j) b0 ∧ Bd (2 + 3 * j) (10 + 2 * j) b1 ∧ dr ≤ n1 + 1 + 60 * (j : Int)) _ _ ?_ ?_ ⟨0, _, _, _, _, _, by rw [el]; rfl, rfl, ⟨rfl, Nat.zero_le _⟩, bd_tup.mpr ⟨by rw [List.length_map]; omega, fun d hd => ?_⟩, by first | omega | (dsimp only; omega)⟩
  · rintro d ds' S - ⟨j, b0, b1, v4, v9, dr, ej, rfl, B0, B1, hdr⟩ N hN
    rw [List.length_cons] at ej
    conv => whnf
    refine ⟨4, rfl, by first | omega | (dsimp only; omega), by decide, by decide, fun a0 _ _ => ?_⟩
    conv => whnf
    refine onT_of (fun _ => ?_) (fun _ => ?_)
    · conv => whnf
      refine ⟨(fun z e => by cases e), ?_⟩
      conv => whnf
      refine ⟨3 + 3 * j, by omega, _, _, rfl, rfl, by have := B0.d; omega, 10 + 2 * j, B0.a, by omega, by omega, by first | omega | (dsimp only; omega), fun y dr' By hdr' => ?_⟩
      conv => whnf
      refine ⟨(fun z e => by cases e), ?_⟩
      conv => whnf
      refine ⟨by show 2 ≤ sizeLine; decide, ?_⟩
      conv => whnf
      exact hN _ ⟨j + 1, y, b1, _, _, _, by omega, rfl, By.up (by omega) (by omega), B1.up (by omega) (by omega), by revert hdr'; dsimp only; omega⟩
    · conv => whnf
      refine ⟨(fun z e => by cases e), ?_⟩
      conv => whnf
      refine ⟨(fun z e => by cases e), ?_⟩
      conv => whnf
      refine ⟨3 + 3 * j, by omega, _, _, rfl, rfl, by have := B1.d; omega, 10 + 2 * j, B1.a, by omega, by omega, by first | omega | (dsimp only; omega), fun y dr' By hdr' => ?_⟩
      conv => whnf
      refine ⟨by show 2 ≤ sizeLine; decide, ?_⟩
      conv => whnf
      exact hN _ ⟨j + 1, b0, y, _, _, _, by omega, rfl, B0.up (by omega) (by omega), By.up (by omega) (by omega), by revert hdr'; dsimp only; omega⟩
  · rintro S ⟨j, b0, b1, v4, v9, dr, ej, rfl, B0, B1, hdr⟩
    have hj : j ≤ 3 := by simp at ej; omega
    have a0 : anyM 62 b0 = true := anyM_up (by omega) _ B0.a
    have a1 : anyM 62 b1 = true := anyM_up (by omega) _ B1.a
    have aw : anyM 62 (.tup (as.map rowD)) = true := anyM_tup.mpr ⟨by rw [List.length_map]; exact om.l, fun d hd => by
      obtain ⟨r, hr', rfl⟩ := List.mem_map.mp hd
      obtain ⟨c, ec, _⟩ := (om.v r hr').b
      exact (bd_row (m := 62) (by rw [ec]; show 1 ≤ 62; decide) (by decide)).a⟩
    conv => whnf
    refine ⟨(fun z e => by cases e), ?_⟩
    conv => whnf
    refine ⟨(fun z e => by cases e), ?_⟩
    conv => whnf
    refine ⟨_, _, _, rfl, false, rfl, rfl, aw, ?_⟩
    rw [heard_ok hdue]
    conv => whnf
    refine ⟨(fun z e => by cases e), ?_⟩
    conv => whnf
    refine ⟨(fun z e => by cases e), ?_⟩
    conv => whnf
    refine ⟨_, _, rfl, a0, a1, ?_⟩
    generalize hdd : due b0 b1 = u0
    conv => whnf
    refine ⟨by show 2 ≤ sizeLine; decide, ?_⟩
    conv => whnf
    refine ⟨rfl, ?_⟩
    conv => whnf
    refine ⟨rfl, ?_⟩
    conv => whnf
    refine ⟨_, _, _, rfl, rfl, ?_⟩
    conv => whnf
    refine ⟨_, _, _, rfl, rfl, ?_⟩
    conv => whnf
    refine ⟨by show 2 ≤ sizeLine; decide, ?_⟩
    conv => whnf
    refine ⟨gd_whole om, ?_⟩
    conv => whnf
    refine ⟨gd_whole om, ?_⟩
    conv => whnf
    refine onT_f (by simp) ?_
    conv => whnf
    refine ⟨(fun z e => by cases e), ?_⟩
    conv => whnf
    refine ⟨(fun z e => by cases e), ?_⟩
    conv => whnf
    refine ⟨_, _, _, rfl, false, rfl, a0, a1, ?_⟩
    generalize hh : heard T.c_Marking b0 b1 = h
    conv => whnf
    refine ⟨(fun z e => by cases e), ?_⟩
    conv => whnf
    refine ⟨(fun z e => by cases e), ?_⟩
    conv => whnf
    refine ⟨_, _, _, rfl, true, rfl, a0, a1, ?_⟩
    rw [hh]
    conv => whnf
    refine ⟨by show 2 ≤ sizeLine; decide, ?_⟩
    refine seq4 (fun S' => ∃ (v3 v6 v7 : Option Sl) (dr' : Int), S' = ⟨[some (.v (.at (.ref a))), some (.v (dkD dd)), some (.v (.tup [.int sz, .tup (as.map rowD)])), v3, v4, some (.v (mk T.c_Marking sz as)), v6, v7, none, v9, none, none, none], dr'⟩ ∧ dr' ≤ 300) ?_ ?_
    · rintro S ⟨v3, v6, v7, dr', rfl, hdr'⟩
      conv => whnf
      refine ⟨(fun z e => by cases e), ?_⟩
      conv => whnf
      refine ⟨Nat.zero_le _, ?_⟩
      conv => whnf
      refine ⟨by show 5 ≤ sizeLine; decide, ?_⟩
      refine lcL_pure (fun _ => none) _ _ (fun d hd A B hAB => ?_) (by show 0 + 5 ≤ sizeLine; decide) ?_
      · have hpl : plain d = true ∧ tyOk T.c_Marking d := by
          rcases List.mem_cons.mp hd with rfl | hd
          · exact ⟨rfl, trivial⟩
          rcases List.mem_cons.mp hd with rfl | hd
          · exact ⟨rfl, trivial⟩
          rcases List.mem_cons.mp hd with rfl | hd
          · exact ⟨rfl, trivial⟩
          rcases List.mem_cons.mp hd with rfl | hd
          · exact ⟨rfl, trivial⟩
          · rw [List.mem_singleton.mp hd]; exact ⟨rfl, trivial⟩
        conv => whnf
        refine ⟨⟨_, _, rfl⟩, hpl.2, _, _, rfl, sz, as, rfl, om, .inr ⟨hpl.1, ?_⟩⟩
        exact hAB _ rfl
      · rw [show List.filterMap (fun _ => none) _ = ([] : List D) from List.filterMap_eq_nil_iff.mpr fun _ _ => rfl, List.append_nil]
        conv => whnf
        refine ⟨Nat.zero_le _, ?_⟩
        conv => whnf
        have g0 : GoodD (.lst []) := (Gd.lst (a := 0) (b := 0) (ds := []) fun d h => by cases h).good
        refine ⟨g0, g0, ?_⟩
        refine onT_f (b := !eqD (.lst []) (.lst [])) (by decide) ?_
        conv => whnf
        refine ⟨by show 4 ≤ sizeLine; decide, ?_⟩
        conv => whnf
        refine ⟨by decide, ?_⟩
        have up3 : (upto 0 (3 : Int).toNat).length = 3 := rfl
        refine lcL_J (fun i acc dr => ∃ zs : List Str, acc = zs.map D.str ∧ zs.length = i ∧ (∀ z ∈ zs, z.length ≤ 9 ∧ asc z = true) ∧ dr ≤ dr' + 42 * (i : Int)) _ 0 [] _ ?_ ?_ ?_ ⟨[], rfl, rfl, (fun _ h => by cases h), by first | omega | (dsimp only; omega)⟩
        · rintro d hd i acc dr hi ⟨zs, rfl, el2, hall, hdr⟩ A B hA hB
          have hi : i < 3 := by have hi : i < 0 + 3 := hi; omega
          conv => whnf
          refine ⟨_, _, _, rfl, rfl, "ab", 9, rfl, rfl, by decide, by decide, by decide, by first | omega | (dsimp only; omega), fun z n2 hz hc hn => ?_⟩
          refine hA _ _ rfl ⟨zs ++ [z], by rw [List.map_append]; rfl, by rw [List.length_append, el2]; rfl, fun y hy => ?_, by revert hn; dsimp only; omega⟩
          rcases List.mem_append.mp hy with hy | hy
          · exact hall y hy
          · rw [List.mem_singleton.mp hy]
            refine ⟨hz, List.all_eq_true.mpr fun c hc' => ?_⟩
            have : c ∈ ("ab" : Str).cps.toList := hc c hc'
            have e : ("ab" : Str).cps.toList = [97, 98] := by decide
            rw [e] at this
            refine decide_eq_true ?_
            simp only [List.mem_cons, List.not_mem_nil, or_false] at this
            omega
        · show 0 + 3 ≤ sizeLine; decide
        · rintro acc dr ⟨zs, rfl, el2, hall, hdr⟩
          have el2 : zs.length = 3 := el2
          have hdr : dr ≤ dr' + 42 * 3 := hdr
          conv => whnf
          refine ⟨by rw [List.length_map, el2]; show 4 + 3 ≤ sizeLine; decide, ?_⟩
          conv => whnf
          refine ⟨_, _, _, rfl, rfl, "abc", 4, rfl, rfl, by decide, by decide, by decide, by first | omega | (dsimp only; omega), fun z n3 hz hc hn => ?_⟩
          have hza : asc z = true := List.all_eq_true.mpr fun c hc' => by
            have : c ∈ ("abc" : Str).cps.toList := hc c hc'
            have e : ("abc" : Str).cps.toList = [97, 98, 99] := by decide
            rw [e] at this
            refine decide_eq_true ?_
            simp only [List.mem_cons, List.not_mem_nil, or_false] at this
            omega
          conv => whnf
          refine ⟨by show 1 ≤ sizeLine; decide, ?_⟩
          conv => whnf
          have ep : ([D.str "", D.str "a", D.str "b", D.str "ab"] ++ zs.map D.str) ++ [D.str z] = (((["", "a", "b", "ab"] : List Str) ++ zs ++ [z])).map D.str := by
            rw [List.map_append, List.map_append]; rfl
          have hps : ∀ y ∈ ((["", "a", "b", "ab"] : List Str) ++ zs ++ [z]), y.length ≤ 9 ∧ asc y = true := fun y hy => by
            rcases List.mem_append.mp hy with hy | hy
            · rcases List.mem_append.mp hy with hy | hy
              · rcases List.mem_cons.mp hy with rfl | hy
                · exact ⟨by decide, by decide⟩
                rcases List.mem_cons.mp hy with rfl | hy
                · exact ⟨by decide, by decide⟩
                rcases List.mem_cons.mp hy with rfl | hy
                · exact ⟨by decide, by decide⟩
                · rw [List.mem_singleton.mp hy]; exact ⟨by decide, by decide⟩
              · exact hall y hy
            · rw [List.mem_singleton.mp hy]; exact ⟨by omega, hza⟩
          have hpl : ((["", "a", "b", "ab"] : List Str) ++ zs ++ [z]).length = 8 := by rw [List.length_append, List.length_append, el2]; rfl
          refine ⟨by rw [List.length_append, List.length_map, el2]; show 4 + 3 + 1 ≤ sizeLine; decide, ?_⟩
          rw [ep]
          generalize ((["", "a", "b", "ab"] : List Str) ++ zs ++ [z]) = pgs at *
          conv => whnf
          have hmap : (pgs.map D.str).map (fun d => match d with
              | .str y => beh as y.cps.toList.reverse 0
              | d => d) = (pgs.map fun y => y.cps.toList.reverse).map fun cs => beh as cs 0 := by
            rw [List.map_map, List.map_map]; rfl
          have gl : GoodD (.lst ((pgs.map fun y => y.cps.toList.reverse).map fun cs => beh as cs 0)) := (Gd.lst (a := 0) (b := 0) fun d hd => by
            obtain ⟨cs, _, rfl⟩ := List.mem_map.mp hd
            exact gd_beh om.v cs).good (by decide) (by rw [List.length_map, List.length_map, hpl]; decide)
          have ql : eqD (.lst ((pgs.map fun y => y.cps.toList.reverse).map fun cs => beh as cs 0)) (.lst ((pgs.map fun y => y.cps.toList.reverse).map fun cs => beh as cs 0)) = true := eqv_behs om.v _
          refine lcL_map (fun d => match d with
              | .str y => beh as y.cps.toList.reverse 0
              | d => d) _ (fun d hd A hA => ?_) (by rw [List.length_map, hpl]; show 8 ≤ sizeLine; decide) ?_
          · obtain ⟨y, hy, rfl⟩ := List.mem_map.mp hd
            obtain ⟨y1, y2⟩ := hps y hy
            conv => whnf
            refine ⟨⟨_, _, rfl, by decide⟩, ?_⟩
            conv => whnf
            refine ⟨_, _, rfl, sz, as, y, rfl, om, rfl, by omega, ?_⟩
            exact hA _ rfl
          · rw [hmap]
            conv => whnf
            refine lcL_map (fun d => match d with
              | .str y => beh as y.cps.toList.reverse 0
              | d => d) _ (fun d hd A hA => ?_) (by rw [List.length_map, hpl]; show 8 ≤ sizeLine; decide) ?_
            · obtain ⟨y, hy, rfl⟩ := List.mem_map.mp hd
              obtain ⟨y1, y2⟩ := hps y hy
              conv => whnf
              refine ⟨(fun z e => by cases e), ?_⟩
              conv => whnf
              refine ⟨_, _, rfl, as, y, rfl, rfl, fun r hr => vr_sm (om.v r hr), by have := om.l; omega, by omega, y2, ?_⟩
              exact hA _ rfl
            · rw [hmap]
              conv => whnf
              exact ⟨gl, gl, congrArg D.bl ql⟩
    · intro N hN
      by_cases hd : u0 = ""
      · obtain ⟨s2, bs, rfl, rfl, om2⟩ := due_ok a1 (hdd.trans hd)
        rw [heard_ok (hdd.trans hd)] at hh
        subst hh
        have inj : shownI (.tup [.int s2, .tup (bs.map rowD)]) = shownI (.tup [.int sz, .tup (as.map rowD)]) ↔ s2 = sz ∧ bs = as := by rw [shownI_eq, shownI_eq]; exact shown_inj om2 om
        conv => whnf
        refine onT_f (by simp [hd]) ?_
        conv => whnf
        refine onT_t (b := decide (u0 = "")) (decide_eq_true hd) ?_
        conv => whnf
        refine ⟨(fun z e => by cases e), ?_⟩
        conv => whnf
        refine ⟨_, _, _, rfl, rfl, ?_⟩
        conv => whnf
        refine ⟨(fun z e => by cases e), ?_⟩
        conv => whnf
        refine ⟨_, _, _, rfl, rfl, ?_⟩
        conv => whnf
        refine ⟨by show 2 ≤ sizeLine; decide, ?_⟩
        conv => whnf
        refine ⟨gd_whole om2, ?_⟩
        conv => whnf
        refine ⟨gd_whole om2, ?_⟩
        conv => whnf
        refine onT_f (by simp) ?_
        conv => whnf
        refine ⟨(fun z e => by cases e), ?_⟩
        conv => whnf
        refine ⟨(fun z e => by cases e), ?_⟩
        conv => whnf
        refine ⟨⟨_, _, rfl⟩, rfl, _, _, rfl, s2, bs, rfl, om2, .inl ⟨s2, bs, rfl, om2, ?_⟩⟩
        conv => whnf
        refine onT_f (by simp) ?_
        conv => whnf
        refine ⟨(fun z e => by cases e), ?_⟩
        conv => whnf
        refine ⟨⟨_, _, rfl⟩, rfl, _, _, rfl, s2, bs, rfl, om2, .inl ⟨sz, as, rfl, om, ?_⟩⟩
        conv => whnf
        refine ⟨gd_whole om2, ?_⟩
        conv => whnf
        refine ⟨gd_whole om, ?_⟩
        conv => whnf
        refine onT_f (b := !decide ((decide (s2 = sz) && decide (bs = as)) = decide (shownI (.tup [.int s2, .tup (bs.map rowD)]) = shownI (.tup [.int sz, .tup (as.map rowD)])))) ?_ ?_
        · rw [decide_eq_decide.mpr inj, Bool.decide_and]; simp
        · conv => whnf
          exact hN _ ⟨_, _, _, _, rfl, by first | omega | (dsimp only; omega)⟩
      · have hv : u0 = "states" ∨ u0 = "moves" := by rw [← hdd] at hd ⊢; exact (due_vals b0 b1).resolve_left hd
        rw [heard_bad (by rw [hdd]; exact hd), hdd] at hh
        subst hh
        have gb := gd_bad hv
        have g2 : GoodD (.lst [.lst [.str "bad", .str u0, .bl true], .lst [.str "bad", .str u0, .bl true]]) := (Gd.lst (a := 1) (b := 21) fun d hd' => by
          rcases List.mem_cons.mp hd' with rfl | hd'
          · exact gb
          · rw [List.mem_singleton.mp hd']; exact gb).good (by decide) (by show 22 * 2 ≤ _; decide)
        conv => whnf
        refine onT_t (by simp [hd]) ?_
        conv => whnf
        refine ⟨g2, ?_⟩
        conv => whnf
        refine ⟨by show 3 ≤ sizeLine; decide, ?_⟩
        conv => whnf
        refine ⟨by show 1 ≤ sizeLine; decide, ?_⟩
        conv => whnf
        refine ⟨⟨by decide, by decide, by show 1 ≤ 1000; decide⟩, ?_⟩
        conv => whnf
        refine ⟨g2, ?_⟩
        conv => whnf
        refine onT_f (show (!decide (shownI (.lst [.lst [.str "bad", .str u0, .bl true], .lst [.str "bad", .str u0, .bl true]]) = shownI (.lst [.lst [.str "bad", .str u0, .bl true], .lst [.str "bad", .str u0, .bl true]]))) = false by simp) ?_
        conv => whnf
        refine onT_f (b := decide (u0 = "")) (decide_eq_false hd) ?_
        conv => whnf
        exact hN _ ⟨_, _, _, _, rfl, by first | omega | (dsimp only; omega)⟩
  · obtain ⟨r, hr', rfl⟩ := List.mem_map.mp hd
    obtain ⟨c, ec, _⟩ := (om.v r hr').b
    exact bd_row (by rw [ec]; show 1 ≤ 10; decide) (by decide)
end
end K44
namespace K44
open PySem PySem.Spec PyProof.Rows L2 L2H Sw Dl Ss
section
variable {P : Program} {w : World} {K : PySem.W.Frag} {mg : Str → Option Value} {base : Heap}
def spLaw (K : PySem.W.Frag) : Sp := fun vs H Q _ => ∃ (a : Addr) (ns : List Int), vs = [.ref a] ∧ SqL K H a (ns.map V.int) ∧ ns.length ≤ 63 ∧ ∀ H', Q (.bl true) H'
abbrev lawN : List Str := ["_law_script", "_law_deck_here", "_law_whole", "_law_bent_here", "_law_turn", "_law_one", "_law_due_here", "_law_told", "_law_pages", "_law_at", "_law_it", "_law_page_here", "_law_go"]
theorem ok_law (T : Tz K mg) : FnG P w K mg base 15 T.f_law T.d_law ["_law_script"] (spLaw K) := by
  refine fng_of T.F_law sc_law (fun vs H Q E ⟨a, ns, h, _⟩ => by rw [h]; rfl) fun cv A out s H vs Q E hG hr ⟨a, ns, hv, hS, hn, hQ⟩ => ?_
  subst hv
  have FD : FnOk P w K mg base CX0 1 T.f__law_deck T.d__law_deck ["_law_script"] (spDeck K) := raw_deck T.F__law_deck T.b_int T.b_list
  refine ⟨_, PSs.nox (pss_cons (ps_set (i := 1) sc_law.nd rfl (by first | exact .inl rfl | exact .inr rfl) (pe_call (E := E0) FD (hr.mono (by decide)) (by rfl) T.g__law_deck T.F__law_deck.kp (bd__law_deck T.toTx) .nil pass0 (pa_cons (pv 0) pa_nil)))
    (t := fun D σ H => _) (u := fun D σ H => ∃ (d l : Addr) (W : Wd (deckD d l)) (t : DST), DSs (cxOf CX0 P w K mg base lawN "law" (defScope (top 25)) T.f_law cv A out s _ E).nox W ((defBody (top 25)).tail) t ∧ liftS W K t D σ H)
    ⟨fun pins s σ H D I ⟨d, l, W, t, h, q⟩ => PSs.run h pins s σ H D I q⟩), ?_⟩
  refine ⟨_, rfl, a, ns, rfl, hS, hn, fun d l ms br H' D hs => ?_⟩
  have hg : ∀ x ∈ (deckD d l).dk, (fun _ => none : Hp) x = none := fun _ _ => rfl
  obtain ⟨t, ht, hq⟩ := law_rest (P := P) (w := w) (base := base) (dd := d) (ll := l) T (cv := cv) (A := A) (out := out) (s := s) (H := H) (E := E) hG hr (Wd.of (deckD d l) (fun _ => none) H' hg) a
  have R0 := rep_start (K := K) (k := deckD d l) (n := 0) (vs := [.ref a, .ref d]) (ds := [.at (.ref a), dkD d]) (N := lawN) (by show 2 ≤ 13; decide) (fun _ _ e => by cases e) hg ⟨ms, br, D⟩ (.cons (.at _) (.cons (.at _) .nil))
  refine ⟨d, l, _, t, ht, _, _, _, R0, hq, ⟨fun _ _ _ _ _ z => z.elim, fun v S' σ H2 G2 u _ hv _ hd => ?_, fun _ _ _ _ _ z => z.elim, fun _ _ _ _ _ z => z.elim⟩⟩
  have hv : v = .bl true := hv
  subst hv
  cases hd
  exact hQ _
end
end K44
namespace K44
open PySem PySem.Spec PyProof.Rows L2 L2H Sw Dl
def chk (K : PySem.W.Frag) : Bool :=
  let B := He.ga K "BadMarking"
  let M := He.ga K "Marking"
  He.eqO (PySem.W.specialIn K (.builtin "object.__class__") "__get__") (some (some (.builtin "getset_descriptor.__get__"))) && (decide (PySem.W.takesIn K (.builtin "object.__class__") = some true) && (xcB K B &&
  (He.eqO (PySem.W.findIn K (.ref B) "__init__") (some (some (.ref (He.ma K B "__init__")))) && (PySem.W.isFn K (.ref (He.ma K B "__init__")) && (decide (PySem.W.exmOne K (.ref B) (.ref B) = some true) && (decide (PySem.W.kitOne K (.ref B) (.ref (He.ga K "StreamError")) = some true) &&
  (PySem.W.plainGet K M Str.empty && (PySem.W.hasDictIn K M && (PySem.W.plainOver K M && (He.eqO (PySem.W.findIn K (.ref M) "__setattr__") (some (some (.builtin "object.__setattr__"))) && (He.eqO (PySem.W.findIn K (.ref M) "__class__") (some (some (.builtin "object.__class__"))) &&
  (decide (PySem.W.mroIn K M (.type "object") = some true) && (PySem.W.makesIn K M && (He.eqO (PySem.W.findIn K (.ref M) "__init__") (some (some (.ref (He.ma K M "__init__")))) && (PySem.W.isFn K (.ref (He.ma K M "__init__")) && (PySem.W.keepIn K (.ref M) &&
  (He.eqO (PySem.W.findIn K (.ref M) "states") (some none) && (He.eqO (PySem.W.findIn K (.ref M) "moves") (some none) && (He.eqO (PySem.W.findIn K (.ref M) "steps") (some none) &&
  (He.eqO (PySem.W.findIn K (.ref M) "told") (some (some (.ref (He.ma K M "told")))) && (PySem.W.isFn K (.ref (He.ma K M "told")) && (PySem.W.keepIn K (.ref (He.ma K M "told")) && (He.eqO (PySem.W.findIn K (.ref M) "__eq__") (some (some (.ref (He.ma K M "__eq__")))) && (PySem.W.isFn K (.ref (He.ma K M "__eq__")) &&
  (decide (PySem.W.kitOne K (.ref M) (.ref M) = some true) && ((tyNames.all fun n => decide (PySem.W.kitOne K (.type n) (.ref M) = some false)) && (tyNames.all fun n => PySem.W.notFirst K M (.type n))))))))))))))))))))))))))))
def hook (n : Nat) (fa : List He.Fa) (fn : List He.DefD) : PySem.W.Hook where
  α := Bool × He.AlD
  obs := fun s => (chk (He.frG s.heap.get? (He.asD s.heap.get? n)), He.obsDG n fa fn s.heap.get?)
  val := fun _ => (true, He.valD fn)
  says := fun _ h => ∃ K : PySem.W.Frag, K.In h ∧ chk K = true ∧ He.SaysD fa fn K
  of := fun _ _ e => ⟨_, He.frG_in, congrArg Prod.fst e, congrArg Prod.snd e⟩
  keeps := fun _ _ _ ⟨K, hK, c⟩ k => ⟨K, PySem.W.Frag.In.keeps hK k, c⟩
def dd0 : He.DefD := ⟨("is_integer", none), "is_integer", "is_integer", defArgs (top 4), defBody (top 4), defScope (top 4), [], []⟩
def dd1 : He.DefD := ⟨("is_index", none), "is_index", "is_index", defArgs (top 5), defBody (top 5), defScope (top 5), [], []⟩
def dd2 : He.DefD := ⟨("is_letter", none), "is_letter", "is_letter", defArgs (top 6), defBody (top 6), defScope (top 6), [], []⟩
def dd3 : He.DefD := ⟨("is_tuple_of", none), "is_tuple_of", "is_tuple_of", defArgs (top 7), defBody (top 7), defScope (top 7), [], []⟩
def dd4 : He.DefD := ⟨("is_ascending", none), "is_ascending", "is_ascending", defArgs (top 8), defBody (top 8), defScope (top 8), [], []⟩
def dd5 : He.DefD := ⟨("is_move", none), "is_move", "is_move", defArgs (top 10), defBody (top 10), defScope (top 10), [], []⟩
def dd6 : He.DefD := ⟨("is_moves", none), "is_moves", "is_moves", defArgs (top 12), defBody (top 12), defScope (top 12), [], []⟩
def dd7 : He.DefD := ⟨("_law_deck", none), "_law_deck", "_law_deck", defArgs (top 15), defBody (top 15), defScope (top 15), [], []⟩
def dd8 : He.DefD := ⟨("_law_draw", none), "_law_draw", "_law_draw", defArgs (top 16), defBody (top 16), defScope (top 16), [], []⟩
def dd9 : He.DefD := ⟨("_law_pick", none), "_law_pick", "_law_pick", defArgs (top 17), defBody (top 17), defScope (top 17), [], []⟩
def dd10 : He.DefD := ⟨("_law_bent", none), "_law_bent", "_law_bent", defArgs (top 18), defBody (top 18), defScope (top 18), [], []⟩
def dd11 : He.DefD := ⟨("_law_is_whole", none), "_law_is_whole", "_law_is_whole", defArgs (top 19), defBody (top 19), defScope (top 19), [], []⟩
def dd12 : He.DefD := ⟨("_law_page", none), "_law_page", "_law_page", defArgs (top 20), defBody (top 20), defScope (top 20), [], []⟩
def dd13 : He.DefD := ⟨("_law_due", none), "_law_due", "_law_due", defArgs (top 21), defBody (top 21), defScope (top 21), [], []⟩
def dd14 : He.DefD := ⟨("_law_heard", none), "_law_heard", "_law_heard", defArgs (top 22), defBody (top 22), defScope (top 22), [], []⟩
def dd15 : He.DefD := ⟨("_law_behind", none), "_law_behind", "_law_behind", defArgs (top 23), defBody (top 23), defScope (top 23), [], []⟩
def dd16 : He.DefD := ⟨("_law_drawn", none), "_law_drawn", "_law_drawn", defArgs (top 24), defBody (top 24), defScope (top 24), [], []⟩
def dd17 : He.DefD := ⟨("law", none), "law", "law", defArgs (top 25), defBody (top 25), defScope (top 25), [], []⟩
def di0 : He.DefD := ⟨("BadMarking", some "__init__"), "__init__", "BadMarking.__init__", defArgs (inClass (top 2) 0), defBody (inClass (top 2) 0), defScope (inClass (top 2) 0), [], []⟩
def di1 : He.DefD := ⟨("Marking", some "__init__"), "__init__", "Marking.__init__", defArgs (inClass (top 13) 0), defBody (inClass (top 13) 0), defScope (inClass (top 13) 0), [], []⟩
def di2 : He.DefD := ⟨("Marking", some "__eq__"), "__eq__", "Marking.__eq__", defArgs (inClass (top 13) 1), defBody (inClass (top 13) 1), defScope (inClass (top 13) 1), [], []⟩
def di3 : He.DefD := ⟨("Marking", some "told"), "told", "Marking.told", defArgs (inClass (top 13) 2), defBody (inClass (top 13) 2), defScope (inClass (top 13) 2), [], []⟩
def fn : List He.DefD := [dd0, dd1, dd2, dd3, dd4, dd5, dd6, dd7, dd8, dd9, dd10, dd11, dd12, dd13, dd14, dd15, dd16, dd17, di0, di1, di2, di3]
def fa : List He.Fa := [.glo "is_integer", .glo "is_index", .glo "is_letter", .glo "is_tuple_of", .glo "is_ascending", .glo "is_move", .glo "is_moves", .glo "_law_deck", .glo "_law_draw", .glo "_law_pick", .glo "_law_bent", .glo "_law_is_whole", .glo "_law_page", .glo "_law_due", .glo "_law_heard", .glo "_law_behind", .glo "_law_drawn", .glo "law", .glo "StreamError", .glo "BadMarking", .glo "Marking", .free "int", .free "str", .free "bool", .free "tuple", .free "isinstance", .free "len", .free "all", .free "range", .free "list", .free "sorted", .free "set", .free "repr", .free "reversed"]
abbrev R : PySem.W.OpenRow := PySem.W.OpenLaw.row PySem.Challenge.rw_streamwrights_k44_markings_of_any_value
abbrev hk : PySem.W.Hook := hook 6 fa fn
def ob (s : PySem.W.SharedT) : Bool × He.AlD := (chk (He.frG (HandSHeadRun.getT s) (He.asD (HandSHeadRun.getT s) 6)), He.obsDG 6 fa fn (HandSHeadRun.getT s))
theorem ob_eq (s : PySem.W.SharedT) : ob s = hk.obs s.abs := by
  have e : HandSHeadRun.getT s = s.abs.heap.get? := funext (HandSHeadRun.getT_eq s)
  unfold ob
  rw [e] <;> rfl
def others : List Str := ["is_integer", "is_index", "is_letter", "is_tuple_of", "is_ascending", "is_move", "is_moves", "_law_deck", "_law_draw", "_law_pick", "_law_bent", "_law_is_whole", "_law_page", "_law_due", "_law_heard", "_law_behind", "_law_drawn", "StreamError", "BadMarking", "Marking"]
theorem run (w : World) : HandSHeadRun.RunEq R (PySem.W.view R.prog [25]) hk ob 30000 others w := by
  intro os
  kernel_rfl
end K44
namespace K44
open PySem PySem.Spec PyProof.Rows L2 L2H Sw Dl
theorem facts {P : Program} {w : World} {K : PySem.W.Frag} {h : Heap} {mg : Str → Option Value} {f : Addr} (X : K.In h) (G : h.Ns mainGlobals mg) (hfa : mg ("law" : Str) = some (.ref f)) (hc : chk K = true) (c : He.SaysD fa fn K) :
    ∃ fd : FuncData, (∀ (s : Shared) (v : Value), BindsTo s fd ⟨[v], []⟩ [("_law_script", v)]) ∧ ∀ base : Heap, K.In base → base.Ns mainGlobals mg → FnG P w K mg base 15 f fd ["_law_script"] (spLaw K) := by
  obtain ⟨fd0, F0⟩ := c.def_ 0 (d := dd0) rfl
  obtain ⟨fd1, F1⟩ := c.def_ 1 (d := dd1) rfl
  obtain ⟨fd2, F2⟩ := c.def_ 2 (d := dd2) rfl
  obtain ⟨fd3, F3⟩ := c.def_ 3 (d := dd3) rfl
  obtain ⟨fd4, F4⟩ := c.def_ 4 (d := dd4) rfl
  obtain ⟨fd5, F5⟩ := c.def_ 5 (d := dd5) rfl
  obtain ⟨fd6, F6⟩ := c.def_ 6 (d := dd6) rfl
  obtain ⟨fd7, F7⟩ := c.def_ 7 (d := dd7) rfl
  obtain ⟨fd8, F8⟩ := c.def_ 8 (d := dd8) rfl
  obtain ⟨fd9, F9⟩ := c.def_ 9 (d := dd9) rfl
  obtain ⟨fd10, F10⟩ := c.def_ 10 (d := dd10) rfl
  obtain ⟨fd11, F11⟩ := c.def_ 11 (d := dd11) rfl
  obtain ⟨fd12, F12⟩ := c.def_ 12 (d := dd12) rfl
  obtain ⟨fd13, F13⟩ := c.def_ 13 (d := dd13) rfl
  obtain ⟨fd14, F14⟩ := c.def_ 14 (d := dd14) rfl
  obtain ⟨fd15, F15⟩ := c.def_ 15 (d := dd15) rfl
  obtain ⟨fd16, F16⟩ := c.def_ 16 (d := dd16) rfl
  obtain ⟨fd17, F17⟩ := c.def_ 17 (d := dd17) rfl
  obtain ⟨gd0, G0⟩ := c.def_ 18 (d := di0) rfl
  obtain ⟨gd1, G1⟩ := c.def_ 19 (d := di1) rfl
  obtain ⟨gd2, G2⟩ := c.def_ 20 (d := di2) rfl
  obtain ⟨gd3, G3⟩ := c.def_ 21 (d := di3) rfl
  unfold chk at hc
  simp only [Bool.and_eq_true] at hc
  obtain ⟨c1, c2, c3, c4, c5, c6, c7, c8, c9, c10, c11, c12, c13, c14, c15, c16, c17, c18, c19, c20, c21, c22, c23, c24, c25, c26, c27, c28⟩ := hc
  have T : ∃ T : Tz K mg, T.f_law = He.ga K "law" ∧ T.d_law = fd17 := ⟨{
    f_is_integer := _
    d_is_integer := fd0
    F_is_integer := F0
    g_is_integer := (He.glo_ok X G (c.fact 0 (f := .glo "is_integer") rfl))
    f_is_index := _
    d_is_index := fd1
    F_is_index := F1
    g_is_index := (He.glo_ok X G (c.fact 1 (f := .glo "is_index") rfl))
    f_is_letter := _
    d_is_letter := fd2
    F_is_letter := F2
    g_is_letter := (He.glo_ok X G (c.fact 2 (f := .glo "is_letter") rfl))
    f_is_tuple_of := _
    d_is_tuple_of := fd3
    F_is_tuple_of := F3
    g_is_tuple_of := (He.glo_ok X G (c.fact 3 (f := .glo "is_tuple_of") rfl))
    f_is_ascending := _
    d_is_ascending := fd4
    F_is_ascending := F4
    g_is_ascending := (He.glo_ok X G (c.fact 4 (f := .glo "is_ascending") rfl))
    f_is_move := _
    d_is_move := fd5
    F_is_move := F5
    g_is_move := (He.glo_ok X G (c.fact 5 (f := .glo "is_move") rfl))
    f_is_moves := _
    d_is_moves := fd6
    F_is_moves := F6
    g_is_moves := (He.glo_ok X G (c.fact 6 (f := .glo "is_moves") rfl))
    f__law_deck := _
    d__law_deck := fd7
    F__law_deck := F7
    g__law_deck := (He.glo_ok X G (c.fact 7 (f := .glo "_law_deck") rfl))
    f__law_draw := _
    d__law_draw := fd8
    F__law_draw := F8
    g__law_draw := (He.glo_ok X G (c.fact 8 (f := .glo "_law_draw") rfl))
    f__law_pick := _
    d__law_pick := fd9
    F__law_pick := F9
    g__law_pick := (He.glo_ok X G (c.fact 9 (f := .glo "_law_pick") rfl))
    f__law_bent := _
    d__law_bent := fd10
    F__law_bent := F10
    g__law_bent := (He.glo_ok X G (c.fact 10 (f := .glo "_law_bent") rfl))
    f__law_is_whole := _
    d__law_is_whole := fd11
    F__law_is_whole := F11
    g__law_is_whole := (He.glo_ok X G (c.fact 11 (f := .glo "_law_is_whole") rfl))
    f__law_page := _
    d__law_page := fd12
    F__law_page := F12
    g__law_page := (He.glo_ok X G (c.fact 12 (f := .glo "_law_page") rfl))
    f__law_due := _
    d__law_due := fd13
    F__law_due := F13
    g__law_due := (He.glo_ok X G (c.fact 13 (f := .glo "_law_due") rfl))
    f__law_heard := _
    d__law_heard := fd14
    F__law_heard := F14
    g__law_heard := (He.glo_ok X G (c.fact 14 (f := .glo "_law_heard") rfl))
    f__law_behind := _
    d__law_behind := fd15
    F__law_behind := F15
    g__law_behind := (He.glo_ok X G (c.fact 15 (f := .glo "_law_behind") rfl))
    f__law_drawn := _
    d__law_drawn := fd16
    F__law_drawn := F16
    g__law_drawn := (He.glo_ok X G (c.fact 16 (f := .glo "_law_drawn") rfl))
    f_law := _
    d_law := fd17
    F_law := F17
    g_law := (He.glo_ok X G (c.fact 17 (f := .glo "law") rfl))
    b_int := (He.free_ok X G (c.fact 21 (f := .free "int") rfl))
    b_str := (He.free_ok X G (c.fact 22 (f := .free "str") rfl))
    b_bool := (He.free_ok X G (c.fact 23 (f := .free "bool") rfl))
    b_tuple := (He.free_ok X G (c.fact 24 (f := .free "tuple") rfl))
    b_isinstance := (He.free_ok X G (c.fact 25 (f := .free "isinstance") rfl))
    b_len := (He.free_ok X G (c.fact 26 (f := .free "len") rfl))
    b_all := (He.free_ok X G (c.fact 27 (f := .free "all") rfl))
    b_range := (He.free_ok X G (c.fact 28 (f := .free "range") rfl))
    b_list := (He.free_ok X G (c.fact 29 (f := .free "list") rfl))
    b_sorted := (He.free_ok X G (c.fact 30 (f := .free "sorted") rfl))
    b_set := (He.free_ok X G (c.fact 31 (f := .free "set") rfl))
    b_repr := (He.free_ok X G (c.fact 32 (f := .free "repr") rfl))
    b_reversed := (He.free_ok X G (c.fact 33 (f := .free "reversed") rfl))
    f_BadMarking____init__ := _
    d_BadMarking____init__ := gd0
    F_BadMarking____init__ := G0
    f_Marking____init__ := _
    d_Marking____init__ := gd1
    F_Marking____init__ := G1
    f_Marking____eq__ := _
    d_Marking____eq__ := gd2
    F_Marking____eq__ := G2
    f_Marking__told := _
    d_Marking__told := gd3
    F_Marking__told := G3
    c_StreamError := He.ga K "StreamError"
    gc_StreamError := (He.glo_ok X G (c.fact 18 (f := .glo "StreamError") rfl))
    c_BadMarking := He.ga K "BadMarking"
    gc_BadMarking := (He.glo_ok X G (c.fact 19 (f := .glo "BadMarking") rfl))
    c_Marking := He.ga K "Marking"
    gc_Marking := (He.glo_ok X G (c.fact 20 (f := .glo "Marking") rfl))
    xB := xc_ok c3
    iB := He.eqO_ok c4
    fB := c5
    xG := ⟨He.eqO_ok c1, of_decide_eq_true c2⟩
    exmB := of_decide_eq_true c6
    kitB := of_decide_eq_true c7
    insM := ⟨⟨c8, c9, c10, He.eqO_ok c11⟩, He.eqO_ok c12, He.eqO_ok c1, of_decide_eq_true c2, of_decide_eq_true c13⟩
    mkM := ⟨c14, He.eqO_ok c15, c16, c17⟩
    noS := He.eqO_ok c18
    noM := He.eqO_ok c19
    noT := He.eqO_ok c20
    told := ⟨He.eqO_ok c21, c22, c23⟩
    eqM := He.eqO_ok c24
    eqF := c25
    yesM := of_decide_eq_true c26
    noK := fun n hn => of_decide_eq_true (List.all_eq_true.mp c27 n hn)
    nf := fun n hn => List.all_eq_true.mp c28 n hn }, rfl, rfl⟩
  obtain ⟨T, e1, e2⟩ := T
  have e := hfa.symm.trans (He.glo_ok X G (c.fact 17 (f := .glo "law") rfl))
  cases e
  have b := FunD.bindsA (ps := ["_law_script"]) F17 fun _ _ _ _ _ _ us hl => match us, hl with | [_], _ => rfl
  refine ⟨fd17, fun s v => b s [v] rfl, fun base _ _ => ?_⟩
  have := ok_law (P := P) (w := w) (base := base) T
  rw [e1, e2] at this
  exact this
end K44
open PySem PySem.W PySem.Calls PyProof.Rows
theorem PySem.Challenge.cw_streamwrights_k44_markings_of_any_value_holds : PySem.Challenge.rw_streamwrights_k44_markings_of_any_value.Holds := by
  w_on; o_law
  refine HandSHeadRun.head_any (r := OpenLaw.row PySem.Challenge.rw_streamwrights_k44_markings_of_any_value) (q := view (OpenLaw.row PySem.Challenge.rw_streamwrights_k44_markings_of_any_value).prog [25]) (H := K44.hk) (ob := K44.ob) (M := 30000) (loose := K44.others) (d := HandSHeadRun.topDef (OpenLaw.row PySem.Challenge.rw_streamwrights_k44_markings_of_any_value).prog 25) (kwd := []) K44.ob_eq
    (by kernel_rfl) (fun s => by kernel_rfl) K44.run (by kernel_rfl) (by kernel_rfl) (by kernel_rfl) (by rfl) (by first | assumption | decide +kernel) (by decide +kernel) ⟨rfl, rfl, rfl, rfl, rfl, by decide +kernel⟩ ?hw ?hc
  case hw => w_witness2
  case hc =>
    refine Sw.walkG (l := PySem.Challenge.rw_streamwrights_k44_markings_of_any_value) (n := 63) (k := 15) (x := "_law_script") rfl (by decide) (by kernel_rfl) ⟨rfl, by decide, by decide⟩ ?F
    intro w mg fa h Y G hmg0
    obtain ⟨K, KX, hchk, c⟩ := Y
    have hmg : mg ("law" : PySem.Str) = some (.ref fa) := by
      have e : (HandSHeadRun.topDef (OpenLaw.row PySem.Challenge.rw_streamwrights_k44_markings_of_any_value).prog 25).name = ("law" : PySem.Str) := by kernel_rfl
      rw [← e]
      exact hmg0
    obtain ⟨fd, hb, hF⟩ := K44.facts (P := (PySem.Challenge.rw_streamwrights_k44_markings_of_any_value).prog) (w := w) KX G hmg hchk c
    exact ⟨K, fd, K44.spLaw K, KX, hb, fun H a ns hl _ hS => ⟨a, ns, rfl, hS, hl, fun _ => rfl⟩, hF⟩
