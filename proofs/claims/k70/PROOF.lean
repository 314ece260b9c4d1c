import PyProof.Rows.All
import Wide.All
import OpenK.AllK
import Wide.FinOn
import HandS.ForMost
import HandS.Wide
import HandS.Gcd
import HandS.IsInst
import HandS.TupAny
import HandS.SortInts
import HandS.Style
import HandS.Codes
import HandS.Walk
import HandS.RaiseMore
import HandS.TupMul
import HandS.WideBits
import HandS.Zip
import KE.KSortTupUse
import KE.KDictCopyH
import HandS.More
import KE.KDictPairs
import KE.KDictKeyed
import HandS.TupLen
import KE.KDictWalk
import PyProof.DictTable
import HandS.Conv
import HandS.TupLe
import KE.SortData
import PyProof.Draws
import KE.GoesMore
import HandS.DictComp
import KE.KDictZip
import HandS.Rev
import HandS.DictTup
import HandS.Deep
import PySem.Challenge.RW_dustwithin_k70_how_likely_at_most
set_option Elab.async false
set_option maxRecDepth 100000
namespace My
open PySem PySem.Spec PyProof.Rows L2

/-! ### sorted(t), t a tuple of ints -/
section
variable {prog : Program} {w : World} {A : Around} {E : Value → Shared → Prop} {s : Shared}
theorem gather_tup {t : Addr} {us : List Value} {Q : List Value → Shared → Prop} (ht : IsTup s.heap t us.toArray) (hz : us.length ≤ sizeLine)
    (q : Q us { s with heap := (s.heap.push (seqObj "list" #[] 0)).update s.heap.objs.size (Obj.mapSeq (· ++ us.toArray)) }) : wpAny (model prog w) A (collect (.ref t)) Q E s := by
  obtain ⟨ob, hob, hcl, m, hdat⟩ := ht
  unfold collect
  refine wpAny_bind (wpAny_runValue (codeAny_builtin entry_proto_collect' ?_))
  show wpAny _ _ (do again (.builtin "list.__iadd__" ⟨[← newList [], .ref t], []⟩)) _ _ s
  refine wpAny_bind (wpAny_newList (wpAny_pure ⟨Code.quiet_builtin _ (by decide +kernel), codeAny_builtin entry_list_iadd' ?_⟩))
  show wpAny _ _ (Builtin.List.listExtendWith (.ref s.heap.objs.size) (.ref t) (.ref s.heap.objs.size)) _ _ { s with heap := s.heap.push (seqObj "list" #[] 0) }
  unfold Builtin.List.listExtendWith
  have hob1 : (s.heap.push (seqObj "list" #[] 0)).get? t = some ob := Heap.get?_push_of_some _ hob
  have e2 : (Value.type "tuple" == Value.type "tuple") = true := by rfl
  refine wpAny_bind (wpAny_typeOf (T := "tuple") ⟨ob, hob1, hcl⟩ ?_); rw [if_pos (by rw [e2]; simp)]
  refine wpAny_bind (listItems_at hob1 hdat ?_); refine wpAny_bind (listItems_at (n := 0) (xs := #[]) (Heap.get?_push_size _ rfl) rfl ?_); rw [if_neg (by simp)]
  refine wpAny_bind (listUpdate_at (n := 0) (xs := #[]) (Heap.get?_push_size _ rfl) rfl ?_ (Nat.zero_le _) (by show (#[] ++ us.toArray).size ≤ sizeLine + 1; simp only [Array.size_append, List.size_toArray, List.length_nil]; omega))
  refine wpAny_pure ?_; show wpAny (model prog w) A (do
      let ob ← load s.heap.objs.size
      match ob.data with
      | .seq xs _ => pure xs.toList
      | _ => unsupported "internal:collect") Q E { s with heap := (s.heap.push (seqObj "list" #[] 0)).update s.heap.objs.size (Obj.mapSeq (· ++ us.toArray)) }
  refine wpAny_bind (wpAny_load (get?_update_seq (Heap.get?_push_size _ rfl) _) ?_)
  show wpAny _ _ (pure ((#[] : Array Value) ++ us.toArray).toList) Q E _
  rw [show ((#[] : Array Value) ++ us.toArray).toList = us by simp]; exact wpAny_pure q
theorem sorted_tup {t : Addr} {us : List Value} {ms : List Int} {Q : Value → Shared → Prop} (ht : IsTup s.heap t us.toArray) (hI : IntsAre us ms) (h64 : us.length < 64)
    (q : ∀ (out : Array Value) (ms' : List Int), IntsAre out.toList ms' → ms'.Perm ms → ms'.Pairwise (· ≤ ·) → Q (.ref (s.heap.objs.size + 1)) { s with heap := sortedAll s.heap us out }) :
    wpAny (model prog w) A (call (.builtin "sorted") [.ref t]) Q E s := by
  refine Calls.call_function_entry kind_sorted plain_sorted entry_sorted (args_sorted1 _) ?_; unfold Builtin.«sorted»
  refine wpAny_bind (m := checkCount "sorted" 1 1 _) (wpAny_pure ?_)
  refine wpAny_bind (gather_tup ht (small64 h64) ?_); refine wpAny_bind (wpAny_newList ?_ (small64 h64))
  have k1 : ((s.heap.push (seqObj "list" #[] 0)).update s.heap.objs.size (Obj.mapSeq (· ++ us.toArray))).objs.size = s.heap.objs.size + 1 := by rw [Heap.size_update, size_push']
  have k2 : (((s.heap.push (seqObj "list" #[] 0)).update s.heap.objs.size (Obj.mapSeq (· ++ us.toArray))).push (seqObj "list" us.toArray 0)).get? (s.heap.objs.size + 1) = some (seqObj "list" us.toArray 0) := by rw [← k1]; exact Heap.get?_push_size _ rfl
  show wpAny _ _ _ _ _ { s with heap := ((s.heap.push (seqObj "list" #[] 0)).update s.heap.objs.size (Obj.mapSeq (· ++ us.toArray))).push (seqObj "list" us.toArray 0) }
  rw [k1]
  refine wpAny_bind (wpAny_holding (wpAny_call_entry slot_list_sort ⟨_, k2, rfl⟩ entry_list_sort (list_sort_tree k2 hI h64 fun out ms' a1 a2 a3 => ⟨_, rfl, ?_⟩) (args_list_sort _)))
  exact wpAny_pure ⟨_, rfl, q out ms' a1 a2 a3⟩
end
section
variable {X : Cx}
theorem cr_sortedTup : CallR X (.builtin "sorted") (fun vs H Q => ∃ (a : Addr) (ms : List Int), vs = [V.ref a] ∧ SqT X.K H a (ms.map V.int) ∧ ms.length < 64 ∧
    ∀ (ms' : List Int) (p : Addr), ms'.Perm ms → ms'.Pairwise (· ≤ ·) → H p = none → Q (.ref p) (upd H p (.lst (ms'.map V.int)))) := by
  intro pins s σ H vs us Q I r h
  obtain ⟨a, ms, rfl, hs, h64, q⟩ := h
  obtain ⟨its, rv, hl, _⟩ := I.tuple hs
  rw [Vals.ref1 r]
  have hi := rv.ints
  refine sorted_tup hl hi (by rw [hi.length]; exact h64) fun out ms' h1 h2 h3 => ?_
  obtain ⟨ep, he⟩ := PyProof.Rows.sortedAll_at s.heap its out
  have hlen : (ms'.map V.int).length ≤ sizeLine := by rw [List.length_map, h2.length_eq]; exact small64 h64
  exact ⟨.ref _, upd H (s.heap.objs.size + 1) (.lst (ms'.map V.int)), I.laid (t' := s.toks) (fun _ _ => sortedAll_old) (Nat.le_succ _) ⟨hlen, out.toList, ep, vals_of_ints h1, he⟩, rfl, q ms' _ h2 h3 (I.hok.fresh (Nat.le_succ _))⟩
end

/-! ### data that stands still: G is a part of the heap that nothing writes -/
mutual
inductive Dq (K : PySem.W.Frag) (G : Hp) : V → PyData → Prop
  | non : Dq K G .non .none
  | bl (b : Bool) : Dq K G (.bl b) (.bool b)
  | int (i : Int) : Dq K G (.int i) (.int i)
  | str (x : Str) : Dq K G (.str x) (.str x)
  | lst {a : Addr} {xs : List V} {ds : List PyData} : G a = some (.lst xs) → DqAll K G xs ds → Dq K G (.ref a) (.list ds)
  | tup {a : Addr} {xs : List V} {ds : List PyData} : G a = some (.tup xs) → DqAll K G xs ds → Dq K G (.ref a) (.tuple ds)
  | dct {a : Addr} {kvs : List (Key × V)} {ds : List (PyData × PyData)} : G a = some (.dK kvs) → DqAll K G (kvs.map fun kv => kV kv.1) (ds.map (·.1)) → DqAll K G (kvs.map (·.2)) (ds.map (·.2)) → Dq K G (.ref a) (.dict ds)
inductive DqAll (K : PySem.W.Frag) (G : Hp) : List V → List PyData → Prop
  | nil : DqAll K G [] []
  | cons {v : V} {vs : List V} {d : PyData} {ds : List PyData} : Dq K G v d → DqAll K G vs ds → DqAll K G (v :: vs) (d :: ds)
end
section
variable {K : PySem.W.Frag} {G G' H : Hp}
mutual
theorem Dq.mono (e : Same G G') : ∀ {v : V} {d : PyData}, Dq K G v d → Dq K G' v d
  | _, _, .non => .non
  | _, _, .bl b => .bl b
  | _, _, .int i => .int i
  | _, _, .str x => .str x
  | _, _, .lst h t => .lst (e _ _ h) (DqAll.mono e t)
  | _, _, .tup h t => .tup (e _ _ h) (DqAll.mono e t)
  | _, _, .dct h t u => .dct (e _ _ h) (DqAll.mono e t) (DqAll.mono e u)
theorem DqAll.mono (e : Same G G') : ∀ {vs : List V} {ds : List PyData}, DqAll K G vs ds → DqAll K G' vs ds
  | _, _, .nil => .nil
  | _, _, .cons h t => .cons (Dq.mono e h) (DqAll.mono e t)
end
theorem DqAll.append : ∀ {vs ws : List V} {ds es : List PyData}, DqAll K G vs ds → DqAll K G ws es → DqAll K G (vs ++ ws) (ds ++ es)
  | _, _, _, _, .nil, t => t
  | _, _, _, _, .cons h r, t => .cons h (DqAll.append r t)
theorem DqAll.get : ∀ {vs : List V} {ds : List PyData} {i : Nat} {v : V}, DqAll K G vs ds → vs[i]? = some v → ∃ d, ds[i]? = some d ∧ Dq K G v d
  | _, _, _, _, .nil, e => by simp at e
  | _, _, 0, _, .cons h _, e => by simp at e; subst e; exact ⟨_, rfl, h⟩
  | _, _, i + 1, v, .cons _ t, e => by
    obtain ⟨d, h1, h2⟩ := DqAll.get (i := i) (v := v) t (by simpa using e)
    exact ⟨d, by simpa using h1, h2⟩
theorem DqAll.len : ∀ {vs : List V} {ds : List PyData}, DqAll K G vs ds → vs.length = ds.length
  | _, _, .nil => rfl
  | _, _, .cons _ t => by rw [List.length_cons, List.length_cons, DqAll.len t]
theorem DqAll.drop : ∀ {vs : List V} {ds : List PyData} (n : Nat), DqAll K G vs ds → DqAll K G (vs.drop n) (ds.drop n)
  | _, _, 0, h => h
  | _, _, _ + 1, .nil => .nil
  | _, _, n + 1, .cons _ t => DqAll.drop n t
theorem DqAll.take : ∀ {vs : List V} {ds : List PyData} (n : Nat), DqAll K G vs ds → DqAll K G (vs.take n) (ds.take n)
  | _, _, 0, _ => .nil
  | _, _, _ + 1, .nil => .nil
  | _, _, n + 1, .cons h t => .cons h (DqAll.take n t)
theorem DqAll.rev : ∀ {vs : List V} {ds : List PyData}, DqAll K G vs ds → DqAll K G vs.reverse ds.reverse
  | _, _, .nil => .nil
  | _, _, .cons h t => by
    rw [List.reverse_cons, List.reverse_cons]
    exact DqAll.append (DqAll.rev t) (.cons h .nil)
theorem dq_ints (K : PySem.W.Frag) (G : Hp) : ∀ ns : List Int, DqAll K G (ns.map V.int) (ns.map PyData.int)
  | [] => .nil
  | n :: r => .cons (.int n) (dq_ints K G r)
end
mutual
def hasList : PyData → Bool
  | .list _ => true
  | .tuple xs => hasListAll xs
  | .dict kvs => hasListKv kvs
  | _ => false
def hasListAll : List PyData → Bool
  | [] => false
  | x :: xs => hasList x || hasListAll xs
def hasListKv : List (PyData × PyData) → Bool
  | [] => false
  | (k, v) :: r => hasList k || hasList v || hasListKv r
end
theorem hasListKv_split : ∀ kvs : List (PyData × PyData), hasListKv kvs = false → hasListAll (kvs.map (·.1)) = false ∧ hasListAll (kvs.map (·.2)) = false
  | [], _ => ⟨rfl, rfl⟩
  | (k, v) :: r, h => by
    simp only [hasListKv, Bool.or_eq_false_iff] at h
    obtain ⟨a, b⟩ := hasListKv_split r h.2
    simp only [List.map_cons, hasListAll, Bool.or_eq_false_iff]
    exact ⟨⟨h.1.1, a⟩, h.1.2, b⟩
section
variable {X : Cx} {pins : List (Addr × Obj)} {σ : L2.St} {H : Hp} {s : Shared}
theorem kv_keys {P : Program} {w : World} : ∀ {kvs : List (Key × V)} {vs : List (Key × Value)} {es : List DictEntry}, KV kvs vs → Pairs (mixKind P w) es vs → Vals (kvs.map fun kv => kV kv.1) (es.map (·.key)) ∧ Vals (kvs.map (·.2)) (es.map (·.val))
  | _, _, _, .nil, .nil => ⟨.nil, .nil⟩
  | (k, v) :: _, (k', v') :: _, _ :: _, .cons ⟨h1, h2⟩ t, .cons g1 g2 g3 => by
    obtain ⟨a, b⟩ := kv_keys t g3
    refine ⟨.cons ?_ a, .cons ?_ b⟩
    · have e : k = k' := h1
      subst e
      rcases keyIs_shape (show keyIs k _ = true from g1) with ⟨i, tk, rfl, e2⟩ | ⟨x, tk, rfl, e2⟩
      · exact ⟨tk, e2⟩
      · exact ⟨tk, e2⟩
    · have e2 : (_ : DictEntry).val = v' := g2
      show RelV v (DictEntry.val _)
      rw [e2]; exact h2
mutual
theorem Dq.reads (I : Inv X pins σ H s) : ∀ (d : PyData) (v : V) (u : Value), Dq X.K H v d → RelV v u → ∃ as, Reads s.heap u d as ∧ (hasList d = false → sysModules ∉ as)
  | .none, _, _, h, r => by cases h; cases r; exact ⟨_, Reads.none, fun _ z => nomatch z⟩
  | .bool b, _, _, h, r => by cases h; cases r; exact ⟨_, Reads.bool b, fun _ z => nomatch z⟩
  | .int i, _, _, h, r => by cases h; obtain ⟨t, rfl⟩ := r; exact ⟨_, Reads.int i t, fun _ z => nomatch z⟩
  | .str x, _, _, h, r => by cases h; obtain ⟨t, rfl⟩ := r; exact ⟨_, Reads.str x t, fun _ z => nomatch z⟩
  | .list ds, _, _, h, r => by
    cases h with
    | lst hs ha =>
      cases r
      obtain ⟨_, its, n, rv, ho⟩ := I.hok _ _ hs
      obtain ⟨as, hr, _⟩ := DqAll.reads I ds _ its ha rv
      exact ⟨_, Reads.list ho rfl rfl (by simpa using hr), fun z => nomatch z⟩
  | .tuple ds, _, _, h, r => by
    cases h with
    | tup hs ha =>
      cases r
      obtain ⟨_, its, rv, o, ho, hc, n, hd⟩ := I.hok _ _ hs
      obtain ⟨as, hr, hn⟩ := DqAll.reads I ds _ its ha rv
      exact ⟨_, Reads.tuple ho hc hd (by simpa using hr), fun z => hn (by simpa only [hasList] using z)⟩
  | .dict ds, _, _, h, r => by
    cases h with
    | dct hs hk hv =>
      rename_i a kvs
      cases r
      obtain ⟨_, hm, vs, rel, o, es, ep, ho, hx, hd, _, hp, _⟩ := I.hok _ _ hs
      obtain ⟨r1, r2⟩ := kv_keys rel hp
      obtain ⟨as, q1, n1⟩ := DqAll.readsK I ds _ _ hk r1
      obtain ⟨bs, q2, n2⟩ := DqAll.readsV I ds _ _ hv r2
      refine ⟨_, Reads.dict ho hx.1 hd q1 q2, fun z => ?_⟩
      obtain ⟨z1, z2⟩ := hasListKv_split ds (by simpa only [hasList] using z)
      intro hmem
      rcases List.mem_append.mp hmem with hmem | hmem
      · rcases List.mem_cons.mp hmem with e | e
        · rw [← e] at hm; simp at hm
        · exact n1 z1 e
      · exact n2 z2 hmem
theorem DqAll.reads (I : Inv X pins σ H s) : ∀ (ds : List PyData) (vs : List V) (us : List Value), DqAll X.K H vs ds → Vals vs us → ∃ as, ReadsAll s.heap us ds as ∧ (hasListAll ds = false → sysModules ∉ as)
  | [], _, _, h, r => by cases h; cases r; exact ⟨_, ReadsAll.nil, fun _ z => nomatch z⟩
  | d :: ds, _, _, h, r => by
    cases h with
    | cons h1 h2 =>
      cases r with
      | cons r1 r2 =>
        obtain ⟨as, q1, n1⟩ := Dq.reads I d _ _ h1 r1
        obtain ⟨bs, q2, n2⟩ := DqAll.reads I ds _ _ h2 r2
        refine ⟨_, ReadsAll.cons q1 q2, fun z hm => ?_⟩
        simp only [hasListAll, Bool.or_eq_false_iff] at z
        rcases List.mem_append.mp hm with e | e
        · exact n1 z.1 e
        · exact n2 z.2 e
theorem DqAll.readsK (I : Inv X pins σ H s) : ∀ (ds : List (PyData × PyData)) (vs : List V) (us : List Value), DqAll X.K H vs (ds.map (·.1)) → Vals vs us → ∃ as, ReadsAll s.heap us (ds.map (·.1)) as ∧ (hasListAll (ds.map (·.1)) = false → sysModules ∉ as)
  | [], _, _, h, r => by cases h; cases r; exact ⟨_, ReadsAll.nil, fun _ z => nomatch z⟩
  | (d, d') :: ds, _, _, h, r => by
    cases h with
    | cons h1 h2 =>
      cases r with
      | cons r1 r2 =>
        obtain ⟨as, q1, n1⟩ := Dq.reads I d _ _ h1 r1
        obtain ⟨bs, q2, n2⟩ := DqAll.readsK I ds _ _ h2 r2
        refine ⟨_, ReadsAll.cons q1 q2, fun z hm => ?_⟩
        simp only [List.map_cons, hasListAll, Bool.or_eq_false_iff] at z
        rcases List.mem_append.mp hm with e | e
        · exact n1 z.1 e
        · exact n2 z.2 e
theorem DqAll.readsV (I : Inv X pins σ H s) : ∀ (ds : List (PyData × PyData)) (vs : List V) (us : List Value), DqAll X.K H vs (ds.map (·.2)) → Vals vs us → ∃ as, ReadsAll s.heap us (ds.map (·.2)) as ∧ (hasListAll (ds.map (·.2)) = false → sysModules ∉ as)
  | [], _, _, h, r => by cases h; cases r; exact ⟨_, ReadsAll.nil, fun _ z => nomatch z⟩
  | (d, d') :: ds, _, _, h, r => by
    cases h with
    | cons h1 h2 =>
      cases r with
      | cons r1 r2 =>
        obtain ⟨as, q1, n1⟩ := Dq.reads I d' _ _ h1 r1
        obtain ⟨bs, q2, n2⟩ := DqAll.readsV I ds _ _ h2 r2
        refine ⟨_, ReadsAll.cons q1 q2, fun z hm => ?_⟩
        simp only [List.map_cons, hasListAll, Bool.or_eq_false_iff] at z
        rcases List.mem_append.mp hm with e | e
        · exact n1 z.1 e
        · exact n2 z.2 e
end
end
end My

namespace My
open PySem PySem.Spec PyProof.Rows L2
def topS (i : Nat) : Stmt := PySem.Challenge.pw_dustwithin_k70_how_likely_at_most.main.body.getD i (.Pass ⟨0, 0, 0, 0⟩)
/-! ### the pen -/
structure PenAt (H : Hp) (p : Addr) (t : Nat) : Prop where
  ex : ∃ (c : Addr) (cells : List Int) (at' rest : Int), H p = some (.lst [.ref c, .int at', .int rest]) ∧ H c = some (.lst (cells.map V.int)) ∧ 0 ≤ at' ∧ at' ≤ (t : Int)
theorem ne_len {H : Hp} {p c : Addr} {xs ys : List V} (h : H p = some (.lst xs)) (g : H c = some (.lst ys)) (e : xs ≠ ys) : c ≠ p := by
  intro z; subst z; rw [h] at g; cases g; exact e rfl
theorem pen_ne {H : Hp} {p c : Addr} {x : Addr} {i j : Int} {cells : List Int} (h : H p = some (.lst [.ref x, .int i, .int j])) (g : H c = some (.lst (cells.map V.int))) : c ≠ p :=
  ne_len h g (by intro z; cases cells with | nil => cases z | cons a r => cases z)
def But (p : Addr) (H H' : Hp) : Prop := ∀ b o, b ≠ p → H b = some o → H' b = some o
theorem But.of {p : Addr} {H H' : Hp} (e : Same H H') : But p H H' := fun b o _ => e b o
theorem But.trans {p : Addr} {H H1 H2 : Hp} (a : But p H H1) (b : But p H1 H2) : But p H H2 := fun c o n h => b c o n (a c o n h)
theorem But.upd {p : Addr} {H : Hp} {o : HO} : But p H (upd H p o) := fun b u n h => by rw [upd_ne n]; exact h
theorem PenAt.same {H H' : Hp} {p : Addr} {t u : Nat} (e : Same H H') (h : t ≤ u) (P : PenAt H p t) : PenAt H' p u := by
  obtain ⟨c, cells, x, y, h1, h2, h3, h4⟩ := P.ex
  exact ⟨c, cells, x, y, e _ _ h1, e _ _ h2, h3, by omega⟩
theorem Same.upd {H : Hp} {p : Addr} {o : HO} (n : H p = none) : Same H (upd H p o) := fun b u h => by rw [upd_ne (ne_of_none h n)]; exact h
structure PenC (H : Hp) (p c : Addr) (t : Nat) : Prop where
  ex : ∃ (cells : List Int) (at' rest : Int), H p = some (.lst [.ref c, .int at', .int rest]) ∧ H c = some (.lst (cells.map V.int)) ∧ 0 ≤ at' ∧ at' ≤ (t : Int)
theorem PenC.any {H : Hp} {p c : Addr} {t : Nat} (h : PenC H p c t) : PenAt H p t := by
  obtain ⟨cells, x, y, h⟩ := h.ex
  exact ⟨c, cells, x, y, h⟩
theorem PenAt.c {H : Hp} {p : Addr} {t : Nat} (h : PenAt H p t) : ∃ c, PenC H p c t := by
  obtain ⟨c, cells, x, y, h⟩ := h.ex
  exact ⟨c, cells, x, y, h⟩
theorem PenC.same {H H' : Hp} {p c : Addr} {t u : Nat} (e : Same H H') (h : t ≤ u) (P : PenC H p c t) : PenC H' p c u := by
  obtain ⟨cells, x, y, h1, h2, h3, h4⟩ := P.ex
  exact ⟨cells, x, y, e _ _ h1, e _ _ h2, h3, by omega⟩
theorem PenC.at_c {H : Hp} {p c : Addr} {t : Nat} (h : PenC H p c t) : H c ≠ none := by
  obtain ⟨cells, x, y, h1, h2, _⟩ := h.ex
  rw [h2]; exact fun z => nomatch z
theorem PenC.upd {H : Hp} {p c : Addr} {t u : Nat} (P : PenC H p c t) {q : Addr} (h1 : q ≠ p) (h2 : q ≠ c) (h : t ≤ u) (o : HO) : PenC (upd H q o) p c u := by
  obtain ⟨cells, x, y, g1, g2, g3, g4⟩ := P.ex
  exact ⟨cells, x, y, by rw [upd_ne h1.symm]; exact g1, by rw [upd_ne h2.symm]; exact g2, g3, by omega⟩
/-! ### promises -/
def spSpread : Sp := fun vs H Q _ => ∃ (c a : Int), vs = [.int c, .int a] ∧ 0 ≤ a ∧ a < 2 ^ 30 ∧ ∀ (r : Int) (H' : Hp), Same H H' → Q (.int r) H'
def spOpen (K : PySem.W.Frag) : Sp := fun vs H Q _ => ∃ (a : Addr) (ns : List Int), vs = [.ref a] ∧ SqL K H a (ns.map V.int) ∧ ns.length ≤ 63 ∧ ∀ (p : Addr) (H' : Hp), H p = none → Same H H' → PenAt H' p 0 → Q (.ref p) H'
def spTake : Sp := fun vs H Q _ => ∃ (p : Addr) (n : Int) (t : Nat), vs = [.ref p, .int n] ∧ 0 < n ∧ n.natAbs < 2 ^ 8000 ∧ PenAt H p t ∧ t < 2 ^ 29 ∧ ∀ (m : Int) (H' : Hp), 0 ≤ m → m < n → But p H H' → PenAt H' p (t + 1) → Q (.int m) H'
def spTakeC : Sp := fun vs H Q _ => ∃ (p c : Addr) (n : Int) (t : Nat), vs = [.ref p, .int n] ∧ 0 < n ∧ n.natAbs < 2 ^ 8000 ∧ PenC H p c t ∧ t < 2 ^ 29 ∧ ∀ (m : Int) (H' : Hp), 0 ≤ m → m < n → But p H H' → PenC H' p c (t + 1) → Q (.int m) H'
section
variable {P : Program} {w : World} {K : PySem.W.Frag} {mg : Str → Option Value} {base : Heap}
def primesV : List V := [.int 2147483629, .int 2147483587, .int 2147483579, .int 2147483563, .int 2147483549, .int 2147483543, .int 2147483497, .int 2147483489] ++ [.int 2147483477, .int 2147483423, .int 2147483399, .int 2147483353, .int 2147483323]
theorem prime_at {j : Int} (h0 : 0 ≤ j) (h1 : j < 13) : ∃ q : Int, atI primesV j = some (.int q) ∧ 0 < q ∧ q < 2147483648 := by
  have h : j = 0 ∨ j = 1 ∨ j = 2 ∨ j = 3 ∨ j = 4 ∨ j = 5 ∨ j = 6 ∨ j = 7 ∨ j = 8 ∨ j = 9 ∨ j = 10 ∨ j = 11 ∨ j = 12 := by omega
  rcases h with rfl | rfl | rfl | rfl | rfl | rfl | rfl | rfl | rfl | rfl | rfl | rfl | rfl <;> exact ⟨_, rfl, by decide, by decide⟩
theorem mod_at {x : Int} : 0 ≤ x % 13 ∧ x % 13 < 13 := ⟨Int.emod_nonneg _ (by decide), Int.emod_lt_of_pos _ (by decide)⟩
theorem mod_lt {x q : Int} (h : 0 < q) (h2 : q < 2147483648) : 0 ≤ x % q ∧ x % q < 2147483648 := ⟨Int.emod_nonneg _ (by omega), by have := Int.emod_lt_of_pos x h; omega⟩
theorem pow_ok {i : Int} {j : Int} (hj : j = 3 ∨ j = 5) (h0 : 0 ≤ i) (h1 : i < 2 ^ 64) : CPow i j := by
  refine ⟨by omega, by omega, ?_⟩
  omega
theorem nat_at {xs : List Int} {i : Int} (h0 : 0 ≤ i) (h1 : i < xs.length) : ∃ v : Int, atI (xs.map V.int) i = some (.int v) := by
  obtain ⟨j, rfl⟩ : ∃ j : Nat, i = (j : Int) := ⟨i.toNat, by omega⟩
  have hj : j < xs.length := by omega
  exact ⟨xs[j], atI_nat (by rw [List.getElem?_map, List.getElem?_eq_getElem hj]; rfl)⟩
theorem mapInt_len (xs : List Int) : ((xs.map V.int).length : Int) = (xs.length : Int) := by rw [List.length_map]
theorem cut_ints (ns : List Int) (lo hi : Option Int) : ∃ ms : List Int, cutV (ns.map V.int) lo hi = ms.map V.int ∧ ms = (ns.drop (HT.sIx ns.length 0 lo)).take (HT.sIx ns.length ns.length hi - HT.sIx ns.length 0 lo) := by
  refine ⟨_, ?_, rfl⟩
  unfold cutV
  rw [List.length_map, List.map_take, List.map_drop]
theorem sIx_nat (n : Nat) (d : Nat) (k : Nat) : HT.sIx n d (some (k : Int)) = min k n := by
  unfold HT.sIx
  simp only
  rw [if_neg (by omega)]
  omega
theorem cut12 (ns : List Int) : ∃ ms : List Int, cutV (ns.map V.int) none (some 12) = ms.map V.int ∧ ms.length = min 12 ns.length := by
  obtain ⟨ms, h1, h2⟩ := cut_ints ns none (some 12)
  refine ⟨ms, h1, ?_⟩
  rw [h2, List.length_take, List.length_drop]
  have a1 : HT.sIx ns.length 0 none = 0 := rfl
  have a2 : HT.sIx ns.length ns.length (some 12) = min 12 ns.length := sIx_nat _ _ 12
  rw [a1, a2]; omega
theorem cut63 (ns : List Int) : ∃ ms : List Int, cutV (ns.map V.int) (some 12) (some 63) = ms.map V.int ∧ ms.length ≤ ns.length - 12 := by
  obtain ⟨ms, h1, h2⟩ := cut_ints ns (some 12) (some 63)
  refine ⟨ms, h1, ?_⟩
  rw [h2, List.length_take, List.length_drop]
  have a1 : HT.sIx ns.length 0 (some 12) = min 12 ns.length := sIx_nat _ _ 12
  have a2 : HT.sIx ns.length ns.length (some 63) = min 63 ns.length := sIx_nat _ _ 63
  rw [a1, a2]; omega
theorem set_ints (ns : List Int) (j : Nat) (v : Int) : (ns.map V.int).set j (.int v) = (ns.set j v).map V.int := by rw [List.map_set]
end
end My

namespace My
open PySem PySem.Spec PyProof.Rows L2
/-! ### t[::-1] -/
section
variable {prog : Program} {w : World} {A : Around} {E : Value → Shared → Prop} {s : Shared}
theorem backwards (xs : Array Value) : ((List.range xs.size).filterMap fun (m : Nat) => xs[((xs.size : Int) - 1 + (m : Int) * -1).toNat]?).toArray = xs.toList.reverse.toArray := by
  have e1 : (List.range xs.size).filterMap (fun (m : Nat) => xs[((xs.size : Int) - 1 + (m : Int) * -1).toNat]?) = ((List.range xs.size).map fun k => xs.size - 1 - k).filterMap (xs[·]?) := by
    rw [List.filterMap_map]
    congr 1
    funext m
    show _ = xs[xs.size - 1 - m]?
    have : ((xs.size : Int) - 1 + (m : Int) * -1).toNat = xs.size - 1 - m := by omega
    rw [this]
  rw [e1, PySem.W.krv_range, List.filterMap_reverse, PySem.W.krv_all]
theorem getItem_back {t sl : Addr} {items : Array Value} {tk : Tok} {Q : Value → Shared → Prop} (ht : IsTup s.heap t items) (hs : s.heap.IsSliceOf sl .none .none (.int (-1) tk)) (hsz : items.size ≤ sizeLine)
    (q : Q (.ref s.heap.objs.size) { s with heap := s.heap.push { cls := .type "tuple", data := .seq items.toList.reverse.toArray } }) : wpAny (model prog w) A (getItem (.ref t) (.ref sl)) Q E s := by
  have hfit : sizeOk (.seq items.toList.reverse.toArray) := by show items.toList.reverse.toArray.size ≤ sizeLine; simpa using hsz
  obtain ⟨ob, hob, hcl, hdat⟩ := id hs
  have hT : s.TypeIs (.ref sl) "slice" := ⟨ob, hob, hcl⟩
  unfold getItem; try with_reducible refine wpAny_holding ?_
  first | refine wpAny_bind (wpAny_pure ?_) | skip
  refine wpAny_bind (wpAny_sequenceKey ht.typeIs (by decide) ?_); refine wpAny_bind (wpAny_callSpecial?_slot (name := Str.ofString "__getitem__") ht.typeIs slot_tuple_getitem (wpAny_call_entry slot_tuple_getitem ht.typeIs entry_tuple_getitem ?_ (args_tuple_getitem _ _)))
  show wpAny _ _ (Builtin.Tuple.tupleItemsOf (.ref t) >>= _) _ _ s; refine wpAny_bind (tupleItemsOf_ ht ?_); refine wpAny_bind (wpAny_typeOf hT ?_); rw [if_pos (by decide)]
  have step : ∀ {R : Int × Int × Nat → Shared → Prop}, R ((items.size : Int) - 1, -1, items.size) s → wpAny (model prog w) A.in1 (Builtin.Slice.sliceApplied (.ref sl) (pure (items.size : Int))) R E s := by
    intro R hR; unfold Builtin.Slice.sliceApplied Builtin.Slice.sliceFields
    refine wpAny_bind (wpAny_bind (wpAny_field hob hdat (x := .none) rfl (wpAny_bind (wpAny_field hob hdat (x := .none) rfl (wpAny_bind (wpAny_field hob hdat (x := .int (-1) tk) rfl (wpAny_pure ?_)))))))
    refine wpAny_bind (slicePart_int ?_); show wpAny _ _ (if ((-1 : Int) == 0) = true then _ else _) _ _ s; rw [if_neg (by decide)]
    refine wpAny_bind (PyProof.Rows.slicePart_none (wpAny_bind (PyProof.Rows.slicePart_none (wpAny_bind (wpAny_pure ?_)))))
    show wpAny _ _ (match Builtin.Slice.sliceAdjust none none (-1) (items.size : Int) with | (lo, hi) => pure (lo, (-1 : Int), Builtin.Slice.slicePlaces lo hi (-1))) _ _ s
    have e1 : Builtin.Slice.sliceAdjust none none (-1) (items.size : Int) = ((items.size : Int) - 1, -1) := rfl
    rw [e1]; show wpAny _ _ (pure ((items.size : Int) - 1, (-1 : Int), Builtin.Slice.slicePlaces ((items.size : Int) - 1) (-1) (-1))) _ _ s
    have e2 : Builtin.Slice.slicePlaces ((items.size : Int) - 1) (-1) (-1) = items.size := by
      unfold Builtin.Slice.slicePlaces
      have h1 : ¬ ((-1 : Int) > 0) := by decide
      simp only [h1, if_false]
      by_cases h : (items.size : Int) - 1 > -1
      · rw [if_pos h, show (- -1 : Int) = 1 by decide, Int.ediv_one]; omega
      · rw [if_neg h]; omega
    rw [e2]; exact wpAny_pure hR
  refine wpAny_bind (step ?_)
  show wpAny _ _ (if (((items.size : Int) - 1) == 0 && (-1 : Int) == 1 && items.size == items.size) = true then _ else _) _ _ s
  rw [if_neg (by rw [show ((-1 : Int) == 1) = false by decide, Bool.and_false, Bool.false_and]; decide), backwards]
  first
    | exact wpAny_bind (m := Builtin.Tuple.tupleExact _) (wpAny_newObj_type (wpAny_pure ⟨_, rfl, wpAny_pure q⟩) hfit)
    | exact wpAny_bind (m := Builtin.Tuple.tupleExact _) (wpAny_newObj_type (wpAny_bind (wpAny_pure (wpAny_pure ⟨_, rfl, wpAny_pure q⟩))) hfit)
    | exact wpAny_bind (wpAny_bind (m := Builtin.Tuple.tupleExact _) (wpAny_newObj_type (wpAny_pure (wpAny_pure ⟨_, rfl, wpAny_pure q⟩)) hfit))
    | exact wpAny_bind (wpAny_bind (m := Builtin.Tuple.tupleExact _) (wpAny_newObj_type (wpAny_pure ⟨_, rfl, wpAny_pure q⟩) hfit))
end
section
variable {X : Cx}
def tRevT (K : PySem.W.Frag) (te : TE) : TE := fun σ H Q => te σ H fun x H1 => ∃ a xs, x = .ref a ∧ SqT K H1 a xs ∧ ∀ p, H1 p = none → Q (.ref p) (upd H1 p (.tup xs.reverse))
theorem pe_revT {e : Expr} {te : TE} {k : Nat} {p1 p2 p3 pos : Pos} (he : PE X e te) : PE X (.Subscript e (.Slice none none (some (.UnaryOp .USub (.Constant (.int 1) k p1) p2)) p3) pos) (tRevT X.K te) := by
  refine ⟨fun pins s σ H Q I h => ?_⟩
  refine Subscript_ (thn (he.run pins s σ H _ I h) fun v s1 ⟨x, H1, I1, r1, q1⟩ => ?_)
  obtain ⟨a, xs, ex, hx, q⟩ := q1
  subst ex; cases r1
  have hst : PO X (some (.UnaryOp .USub (.Constant (.int 1) k p1) p2)) (tPart (tUn (rU fun i => .int (-i)) (tC (.int 1)))) := po_some (pe_un un_neg pe_int)
  refine wpAny_Slice (thn (po_none.run pins s1 σ H1 (fun o H2 => o = none ∧ H2 = H1) I1 ⟨rfl, rfl⟩) fun vl s2 ⟨l, H2, I2, pl, el, e2⟩ => ?_)
  subst el e2
  refine thn (po_none.run pins s2 σ H2 (fun o H3 => o = none ∧ H3 = H2) I2 ⟨rfl, rfl⟩) fun vu s3 ⟨u, H3, I3, pu, eu, e3⟩ => ?_
  subst eu e3
  refine thn (hst.run pins s3 σ H3 (fun o H4 => o = some (-1) ∧ H4 = H3) I3 ⟨1, rfl, -1, rfl, rfl, rfl⟩) fun vs s4 ⟨o, H4, I4, ps, eo, e4⟩ => ?_
  subst eo e4
  cases pl; cases pu; cases ps with
  | int i tk =>
  have J : Inv X pins σ H4 { s4 with heap := s4.heap.push { cls := .type "slice", data := .fields #[.none, .none, .int (-1) tk] } } := I4.kept (t' := s4.toks) fun b ob q => Heap.get?_push_of_some _ q
  obtain ⟨its, r, ht, hz⟩ := J.tuple hx
  have hl := r.length
  show wpAny (model X.prog X.w) X.A (subscriptTail e (.Slice none none (some (.UnaryOp .USub (.Constant (.int 1) k p1) p2)) p3) (.ref a) (.ref s4.heap.objs.size)) (EP X pins σ Q) X.xe { s4 with heap := s4.heap.push { cls := .type "slice", data := .fields #[.none, .none, .int (-1) tk] } }
  refine tail_any (ops := [.ref a, .ref s4.heap.objs.size]) ht.typeIs (slot_tuple_getitem.lookup) ?_ (by with_unfolding_all rfl)
  refine getItem_back ht (Heap.IsSliceOf.new _ .none .none (.int (-1) tk)) (by rw [List.size_toArray]; omega) ?_
  refine ⟨.ref _, _, J.laid (t' := s4.toks) (o := .tup xs.reverse) (fun b ob q => Heap.get?_push_of_some _ q) (Nat.le_refl _) ?_, rfl, q _ (J.hok.fresh (Nat.le_refl _))⟩
  exact ⟨by rw [List.length_reverse]; exact hz, _, r.reverse, IsTup.new _ _⟩
end
/-! ### repr -/
section
variable {X : Cx}
def rRepr (K : PySem.W.Frag) : List V → Hp → VK → Prop := fun xs H Q => ∃ (v : V) (d : PyData) (G : Hp), xs = [v] ∧ Same G H ∧ Dq K G v d ∧ d.showable = true ∧ (d.hasDict = true → hasList d = false) ∧ d.depth ≤ 100 ∧ d.shown.length ≤ sizeLine ∧ Q (.str d.shown) H
theorem cr_repr (hg : X.A.guards = some []) (hu : X.A.units + 111 < cLine) : CallR X (.builtin "repr") (rRepr X.K) := by
  intro pins s σ H xs us Q I r h
  obtain ⟨v, d, G, rfl, e, h, hs, hm, hd, hz, q⟩ := h
  have h' := h.mono e
  have key : ∀ a : Addr, us = [.ref a] → RelV v (.ref a) → wpAny (model X.prog X.w) X.A (call (.builtin "repr") us) (EP X pins σ Q) X.xe s := fun a ea ra => by
    subst ea
    obtain ⟨as, hr, hn⟩ := Dq.reads I d v _ h' ra
    exact repr_of_reads' hr hs (fun z => hn (hm z)) hg (by omega) (fun _ _ e => e) (fun h2 u tk hk => ⟨.str _, H, I.kept hk, ⟨_, rfl⟩, q⟩) hz
  cases r with
  | cons r0 rr =>
    cases rr
    cases h with
    | non => cases r0; exact PySem.P.repr_of_none ⟨.str _, H, I.tok _, ⟨_, rfl⟩, q⟩
    | bl b => cases r0; exact PySem.P.repr_of_bool ⟨.str _, H, I.tok _, ⟨_, rfl⟩, q⟩
    | int i =>
      obtain ⟨t, rfl⟩ := r0
      exact PySem.P.repr_of_int (by simpa [PyData.showable] using hs) ⟨.str _, H, I.tok _, ⟨_, rfl⟩, q⟩
    | str x =>
      obtain ⟨t, rfl⟩ := r0
      exact PySem.P.repr_of_str ⟨.str _, H, I.tok _, ⟨_, rfl⟩, q⟩ hz
    | lst _ _ => cases r0; exact key _ rfl rfl
    | tup _ _ => cases r0; exact key _ rfl rfl
    | dct _ _ _ => cases r0; exact key _ rfl rfl
end
/-! ### data made by an expression -/
structure Nw (G H G' H' : Hp) : Prop where
  gg : Same G G'
  gh : Same G' H'
  hh : Same H H'
  old : ∀ b, H b ≠ none → G' b = G b
theorem Nw.refl {G H : Hp} (e : Same G H) : Nw G H G H := ⟨Same.refl _, e, Same.refl _, fun _ _ => rfl⟩
theorem Nw.trans {G H G1 H1 G2 H2 : Hp} (a : Nw G H G1 H1) (b : Nw G1 H1 G2 H2) : Nw G H G2 H2 := by
  refine ⟨a.gg.trans b.gg, b.gh, a.hh.trans b.hh, fun c h => ?_⟩
  have h1 : H1 c ≠ none := by
    cases q : H c with
    | none => exact absurd q h
    | some o => rw [a.hh c o q]; exact fun z => nomatch z
  rw [b.old c h1, a.old c h]
theorem Nw.mk1 {G H : Hp} (e : Same G H) {p : Addr} (n : H p = none) (o : HO) : Nw G H (upd G p o) (upd H p o) := by
  refine ⟨Same.upd (e.free n), fun b u h => ?_, Same.upd n, fun b h => upd_ne (fun z => h (by rw [z]; exact n))⟩
  by_cases hb : b = p
  · subst hb; rw [upd_same] at h ⊢; exact h
  · rw [upd_ne hb] at h ⊢; exact e b u h
theorem PE.imp {X : Cx} {e : Expr} {t t' : TE} (h : PE X e t) (i : ∀ σ H Q, t' σ H Q → t σ H Q) : PE X e t' := ⟨fun pins s σ H Q I q => h.run pins s σ H Q I (i σ H Q q)⟩
theorem PA.imp {X : Cx} {es : List Expr} {t t' : TA} (h : PA X es t) (i : ∀ σ H Q, t' σ H Q → t σ H Q) : PA X es t' := ⟨fun pos pins s σ H Q I q => h.run pos pins s σ H Q I (i σ H Q q)⟩
def tDc (K : PySem.W.Frag) (d : PyData) : TE := fun _ H Q => ∃ G, Same G H ∧ ∀ v G' H', Nw G H G' H' → Dq K G' v d → Q v H'
def tDcs (K : PySem.W.Frag) (ds : List PyData) : TA := fun _ H Q => ∃ G, Same G H ∧ ∀ vs G' H', Nw G H G' H' → DqAll K G' vs ds → Q vs H'
section
variable {X : Cx} {pos : Pos}
theorem dc_int {i : Int} {j : Nat} : PE X (.Constant (.int i) j pos) (tDc X.K (.int i)) := PE.imp pe_int fun _ _ _ ⟨_, e, k⟩ => k _ _ _ (Nw.refl e) (.int i)
theorem dc_str {x : Str} {j : Nat} : PE X (.Constant (.str x) j pos) (tDc X.K (.str x)) := PE.imp pe_str fun _ _ _ ⟨_, e, k⟩ => k _ _ _ (Nw.refl e) (.str x)
theorem dc_bl {b : Bool} {j : Nat} : PE X (.Constant (.bool b) j pos) (tDc X.K (.bool b)) := PE.imp pe_bl fun _ _ _ ⟨_, e, k⟩ => k _ _ _ (Nw.refl e) (.bl b)
theorem dc_non {j : Nat} : PE X (.Constant .none j pos) (tDc X.K .none) := PE.imp pe_non fun _ _ _ ⟨_, e, k⟩ => k _ _ _ (Nw.refl e) .non
theorem dc_neg {i : Int} {j : Nat} {p : Pos} : PE X (.UnaryOp .USub (.Constant (.int i) j p) pos) (tDc X.K (.int (-i))) := PE.imp (pe_un un_neg pe_int) fun _ _ _ ⟨_, e, k⟩ => ⟨i, rfl, k _ _ _ (Nw.refl e) (.int _)⟩
theorem dc_pow {i j : Int} {a b : Nat} {p q : Pos} (h : CPow i j) : PE X (.BinOp (.Constant (.int i) a p) .Pow (.Constant (.int j) b q) pos) (tDc X.K (.int (i ^ j.toNat))) :=
  PE.imp (pe_op op_pow pe_int pe_int) fun _ _ _ ⟨_, e, k⟩ => ⟨i, j, rfl, rfl, h, k _ _ _ (Nw.refl e) (.int _)⟩
theorem das_nil : PA X [] (tDcs X.K []) := PA.imp pa_nil fun _ _ _ ⟨_, e, k⟩ => k _ _ _ (Nw.refl e) .nil
theorem das_cons {e : Expr} {es : List Expr} {d : PyData} {ds : List PyData} (h1 : PE X e (tDc X.K d)) (h2 : PA X es (tDcs X.K ds)) (hs : starEach (e :: es) X.env = (false, eval e X.env) :: starEach es X.env := by rfl) : PA X (e :: es) (tDcs X.K (d :: ds)) :=
  PA.imp (pa_cons h1 h2 hs) fun _ _ _ ⟨G, e, k⟩ => ⟨G, e, fun _ G1 _ n1 d1 => ⟨G1, n1.gh, fun _ _ _ n2 d2 => k _ _ _ (n1.trans n2) (.cons (d1.mono n2.gg) d2)⟩⟩
theorem dc_tup {es : List Expr} {ds : List PyData} {x1} (h : PA X es (tDcs X.K ds)) (hl : ds.length ≤ sizeLine) : PE X (.Tuple es x1 pos) (tDc X.K (.tuple ds)) :=
  PE.imp (pe_tup h) fun _ _ _ ⟨G, e, k⟩ => ⟨G, e, fun vs G1 H1 n1 d1 => ⟨by rw [d1.len]; exact hl, fun p np => k _ _ _ (n1.trans (Nw.mk1 n1.gh np (.tup vs))) (.tup upd_same (d1.mono (Nw.mk1 n1.gh np (.tup vs)).gg))⟩⟩
theorem dc_lst {es : List Expr} {ds : List PyData} (h : PA X es (tDcs X.K ds)) (hl : ds.length ≤ sizeLine) : PE X (.List es pos) (tDc X.K (.list ds)) :=
  PE.imp (pe_lst h) fun _ _ _ ⟨G, e, k⟩ => ⟨G, e, fun vs G1 H1 n1 d1 => ⟨by rw [d1.len]; exact hl, fun p np => k _ _ _ (n1.trans (Nw.mk1 n1.gh np (.lst vs))) (.lst upd_same (d1.mono (Nw.mk1 n1.gh np (.lst vs)).gg))⟩⟩
theorem dc_dict0 : PE X (.Dict [] [] pos) (tDc X.K (.dict [])) :=
  PE.imp pe_dnewK fun _ _ _ ⟨G, e, k⟩ => fun p np => k _ _ _ (Nw.mk1 e np (.dK [])) (.dct upd_same .nil .nil)
theorem dc_dict01 {a b c d : Nat} {p1 p2 p3 p4 : Pos} : PE X (.Dict [some (.Constant (.int 0) a p1), some (.Constant (.int 1) b p2)] [.Constant (.int 1) c p3, .Constant (.int 1) d p4] pos) (tDc X.K (.dict [(.int 0, .int 1), (.int 1, .int 1)])) := by
  refine PE.imp (pe_disp (pps_cons pe_int pe_int (pps_cons pe_int pe_int pps_nil)) rfl rfl (by simp) (by show 2 ≤ 15; decide)) fun _ H Q ⟨G, e, k⟩ => fun p np => ?_
  refine ⟨upd_same, [(.inl 0, .int 1), (.inl 1, .int 1)], rfl, by decide, ?_⟩
  rw [upd_upd]
  exact k _ _ _ (Nw.mk1 e np (.dK [(.inl 0, .int 1), (.inl 1, .int 1)])) (.dct upd_same (.cons (.int _) (.cons (.int _) .nil)) (.cons (.int _) (.cons (.int _) .nil)))
end
/-! ### types of data -/
def tyN : PyData → String
  | .none => "NoneType"
  | .bool _ => "bool"
  | .int _ => "int"
  | .str _ => "str"
  | .list _ => "list"
  | .tuple _ => "tuple"
  | .dict _ => "dict"
theorem Dq.ty {K : PySem.W.Frag} {G H : Hp} (e : Same G H) : ∀ {v : V} {d : PyData}, Dq K G v d → TyX K H v (.type (tyN d))
  | _, _, .non => .base .non
  | _, _, .bl b => .base (.bl b)
  | _, _, .int i => .base (.int i)
  | _, _, .str x => .base (.str x)
  | _, _, .lst h _ => .base (.lst (e _ _ h))
  | _, _, .tup h _ => .base (.tup (e _ _ h))
  | _, _, .dct h _ _ => .base (.dK (e _ _ h))
def isT (T : String) (d : PyData) : Bool := tyN d == T
theorem kit_int : ∀ d : PyData, kitB (tyN d) "int" = some (isT "int" d || isT "bool" d)
  | .none => by decide +kernel
  | .bool _ => (by decide +kernel : kitB "bool" "int" = some true)
  | .int _ => (by decide +kernel : kitB "int" "int" = some true)
  | .str _ => (by decide +kernel : kitB "str" "int" = some false)
  | .list _ => (by decide +kernel : kitB "list" "int" = some false)
  | .tuple _ => (by decide +kernel : kitB "tuple" "int" = some false)
  | .dict _ => (by decide +kernel : kitB "dict" "int" = some false)
theorem kit_bool : ∀ d : PyData, kitB (tyN d) "bool" = some (isT "bool" d)
  | .none => by decide +kernel
  | .bool _ => (by decide +kernel : kitB "bool" "bool" = some true)
  | .int _ => (by decide +kernel : kitB "int" "bool" = some false)
  | .str _ => (by decide +kernel : kitB "str" "bool" = some false)
  | .list _ => (by decide +kernel : kitB "list" "bool" = some false)
  | .tuple _ => (by decide +kernel : kitB "tuple" "bool" = some false)
  | .dict _ => (by decide +kernel : kitB "dict" "bool" = some false)
theorem kit_tuple : ∀ d : PyData, kitB (tyN d) "tuple" = some (isT "tuple" d)
  | .none => by decide +kernel
  | .bool _ => (by decide +kernel : kitB "bool" "tuple" = some false)
  | .int _ => (by decide +kernel : kitB "int" "tuple" = some false)
  | .str _ => (by decide +kernel : kitB "str" "tuple" = some false)
  | .list _ => (by decide +kernel : kitB "list" "tuple" = some false)
  | .tuple _ => (by decide +kernel : kitB "tuple" "tuple" = some true)
  | .dict _ => (by decide +kernel : kitB "dict" "tuple" = some false)
theorem isi_read {K : PySem.W.Frag} {G H : Hp} {v : V} {d : PyData} {T : String} {b : Bool} {Q : VK} (e : Same G H) (h : Dq K G v d) (hk : kitB (tyN d) T = some b) (q : Q (.bl b) H) : rIsi K [v, .ty T] H Q :=
  ⟨v, .ty T, .type (tyN d), .type T, b, rfl, .ty T, h.ty e, kit_ty hk, q⟩
theorem PenAt.some {H : Hp} {p : Addr} {t : Nat} (h : PenAt H p t) : H p ≠ none := by
  obtain ⟨c, cells, x, y, h1, _⟩ := h.ex
  rw [h1]; exact fun z => nomatch z
theorem pen_not {H : Hp} {p l : Addr} {t : Nat} (h : PenAt H p t) (n : H l = none) : l ≠ p := fun z => h.some (by rw [← z]; exact n)
theorem keep_ne {H H1 : Hp} (e : Same H H1) {c : Addr} (h : H c ≠ none) : H1 c ≠ none := by
  cases z : H c with
  | none => exact absurd z h
  | some o => rw [e c o z]; exact fun y => nomatch y
theorem lst_new {G H G1 H1 : Hp} (m : Nw G H G1 H1) {q : Addr} (n : H1 q = none) (o : HO) : Nw G H G1 (upd H1 q o) :=
  ⟨m.gg, m.gh.trans (Same.upd n), m.hh.trans (Same.upd n), m.old⟩
theorem same_but {G H H' : Hp} {p : Addr} (e : Same G H) (n : G p = none) (b : But p H H') : Same G H' := fun a o h => b a o (ne_of_none h n) (e a o h)
theorem ifF {c : Bool} {A B : Prop} (h : c = false) (q : B) : if c = true then A else B := by rw [h]; exact iteF q
theorem ifT {c : Bool} {A B : Prop} (h : c = true) (q : A) : if c = true then A else B := by rw [h]; exact iteT q
theorem some_ne {H : Hp} {b : Addr} {o : HO} (h : H b = some o) : H b ≠ none := by rw [h]; exact fun z => nomatch z
theorem same0 (H : Hp) : Same (fun _ => none) H := fun _ _ h => nomatch h
/-! ### the law's own call: what runs around it is known (no repr is under way) -/
def AtTop (P : Program) (w : World) (K : PySem.W.Frag) (mg : Str → Option Value) (base : Heap) (fa : Addr) (fd : FuncData) (ps : List Str) (sp : Sp) : Prop :=
  ∀ (out : List Env) (s : Shared) (H : Hp) (args : Args) (us : List Value) (vs : List V) (Q : VK) (E : XK), Env0 P w K mg base callerA out s H → BindsTo s fd args (ps.zip us) → Vals vs us → sp vs H Q E → codeAny (model P w) callerA (.call (.ref fa) args) (CR CX0 out P w H s Q E) s
theorem top_ok {P : Program} {w : World} {K : PySem.W.Frag} {mg : Str → Option Value} {base : Heap} {x qual : Str} {st : Stmt} {f : Addr} {fd : FuncData} {N ps : List Str} {k : Nat} {sp : Sp} (F : Fun K x qual st f fd) (S : FnScope N ps (defScope st)) (len : ∀ vs H Q E, sp vs H Q E → vs.length = ps.length) (hr : Room (k + 1) callerA)
    (hbody : ∀ (cdv : Value) (out : List Env) (s : Shared) (H : Hp) (vs : List V) (Q : VK) (E : XK), Room k (callerA.deeper (envOfC qual (defScope st) s.heap.objs.size f cdv)) → sp vs H Q E →
      ∃ t, PSs (cxOf CX0 P w K mg base N qual (defScope st) f cdv callerA out s H E).nox (defBody st) t ∧ t { nx := fun _ H' => Q .non H', rt := Q } (start N vs) H) : AtTop P w K mg base f fd ps sp := by
  obtain ⟨oc, od, kV, doc, pm, an, cdv, ct, osl, rfl, lk, hcd⟩ := F.ex
  intro out s H args us vs Q E e0 hb r hsp
  have hl := len _ _ _ _ hsp
  have KI : K.In s.heap := e0.mod.kin.keeps fun b o e => (e0.bs b o e).1
  have nl : s.heap.NoLimit := e0.mod.nolimit.keeps fun b o e => (e0.bs b o e).1
  have hk : ∀ y ∈ ps.zip us, (defScope st).names.lookup y.1 = some .local ∨ ((defScope st).names.lookup y.1 = some .cell ∧ ((cellsFrom (s.heap.objs.size + 1) (defScope st).names []).lookup y.1).isSome = true) := fun ⟨n, v⟩ hy => by
    rcases S.par n (List.of_mem_zip hy).1 with q | q
    · exact .inl q
    · exact .inr ⟨q, PySem.W.cellsFrom_some _ _ _ (.inl q)⟩
  refine codeAny_call_function hr.depth (KI _ _ lk) rfl S.co S.gen rfl (PySem.W.codeRec_of KI hcd) (hb _ _ _ _ ?_)
  refine wpAny_newFunctionEnv_cells S.kind hk fun env he s1 x => ?_
  subst he; refine ⟨nl.keeps x.toInCall.keep, codeAny_func ?_⟩
  obtain ⟨t, ht, hq⟩ := hbody cdv out s H vs Q E (hr.deeper _) hsp
  have I : Inv (cxOf CX0 P w K mg base N qual (defScope st) f cdv callerA out s H E) [] (start N vs) H s1 := inv_start S hr.hd e0 hl r x
  refine wpAny_mono (ht.nox.run [] s1 (start N vs) H _ I hq) (fun fl s' hs => ?_) fun e s' hs => hs
  have fin : ∀ {σ' : L2.St} {H' : Hp} {v : V} {u : Value}, Inv (cxOf CX0 P w K mg base N qual (defScope st) f cdv callerA out s H E) [] σ' H' s' → RelV v u → Q v H' → CE out P w H s Q u s' := fun {σ' H' v u} J rv q => ⟨v, H', J.os, J.bare, J.base, J.hok, rv, q⟩
  cases fl with
  | ret u => obtain ⟨v, σ', H', J, rv, q⟩ := hs; exact fin J rv q
  | next => obtain ⟨σ', H', J, q⟩ := hs; exact fin (v := V.non) (u := Value.none) J rfl q
  | brk => obtain ⟨_, _, _, q⟩ := hs; exact False.elim q
  | cont => obtain ⟨_, _, _, q⟩ := hs; exact False.elim q
theorem top_call {P : Program} {w : World} {K : PySem.W.Frag} {mg mb : Str → Option Value} {fa a : Addr} {fd : FuncData} {x : Str} {sp : Sp} {s₁ : Shared} {us : List Value} {ns : List Int}
    (KX : K.In s₁.heap) (hn : s₁.heap.Ns mainGlobals mg) (hb : s₁.heap.Ns builtinsNs mb) (hbb : ∀ x : Str, x ≠ "__name__" → mb x = bootBuiltins x) (hlim : s₁.heap.NoLimit) (hg : s₁.gens = #[])
    (ha : s₁.heap.get? a = some { cls := .type "list", data := .seq us.toArray }) (hi : IntsAre us ns) (hl : ns.length ≤ sizeLine)
    (F : ∀ base : Heap, K.In base → base.Ns mainGlobals mg → AtTop P w K mg base fa fd [x] sp) (hbind : ∀ (s : Shared) (u : Value), BindsTo s fd ⟨[u], []⟩ [(x, u)])
    (hsp : ∀ H : Hp, Only H → SqL K H a (ns.map V.int) → sp [.ref a] H (fun v _ => v = .bl true) fun _ _ _ => False) :
    codeAny (model P w) callerA (.call (.ref fa) ⟨[.ref a], []⟩) (fun r s' => r = .ok (.ret (.bool true)) ∧ OldK s₁.heap s'.heap ∧ s'.os = s₁.os ∧ AllBare s'.gens) s₁ := by
  have rv := vals_ints hi
  have lenV := hi.length
  have main : ∀ H : Hp, Only H → SqL K H a (ns.map V.int) → HOk P w H s₁.heap → (∀ b, H b ≠ none → b = a) → (H a ≠ none → K.lookup a = none) →
      codeAny (model P w) callerA (.call (.ref fa) ⟨[.ref a], []⟩) (fun r s' => r = .ok (.ret (.bool true)) ∧ OldK s₁.heap s'.heap ∧ s'.os = s₁.os ∧ AllBare s'.gens) s₁ := by
    intro H hO hS hok hA hK
    have free : ∀ b : Addr, b ≠ a → H b = none := fun b n => by
      cases q : H b with
      | none => rfl
      | some u => exact absurd (hA b (by rw [q]; simp)) n
    have noA : ∀ {b : Addr} {o : Obj} {es : Array DictEntry} {ep : Nat}, s₁.heap.get? b = some o → o.data = .dict es ep → H b = none := fun {b o es ep} e d => free b fun z => by
      rw [z, ha] at e; cases e
      exact absurd (show Data.seq us.toArray _ = Data.dict es ep from d) (fun z => nomatch z)
    have nsK : ∀ {b : Addr} {m : Str → Option Value}, s₁.heap.Ns b m → (hidT s₁.heap H).Ns b m := fun {b m} ⟨o, es, ep, e, d, r⟩ => ⟨o, es, ep, hidT_get e (noA e d), d, r⟩
    have hKb : K.In (hidT s₁.heap H) := fun b o e => hidT_get (KX b o e) (by
      cases q : H b with
      | none => rfl
      | some u =>
        have z : b = a := hA b (by rw [q]; simp)
        rw [z] at e q
        rw [hK (by rw [q]; simp)] at e; cases e)
    have hM : Mod K mg (hidT s₁.heap H) := ⟨hKb, nsK hn, ⟨mb, nsK hb, hbb⟩, let ⟨mc, h1, h2⟩ := hlim; ⟨mc, nsK h1, h2⟩⟩
    have e0 : Env0 P w K mg (hidT s₁.heap H) callerA [] s₁ H := ⟨rfl, hM, fun b o e => of_hidT e, Nat.le_of_eq (hidT_size _ _), trivial, fun b hb => (nomatch (show b ∈ ([] : List Addr) from hb)), hok, .of_eq hg⟩
    refine codeAny_mono (F _ hKb (nsK hn) [] s₁ H ⟨[.ref a], []⟩ [.ref a] [.ref a] _ _ e0 (hbind s₁ (.ref a)) (.cons rfl .nil) (hsp H hO hS)) fun r s' h => ?_
    cases r with
    | error e => exact False.elim h
    | ok fl =>
      cases fl with
      | next => exact False.elim h
      | brk => exact False.elim h
      | cont => exact False.elim h
      | ret u =>
        obtain ⟨v, H', os, bare, un, hok', r', q⟩ := h
        obtain rfl : v = .bl true := q
        obtain rfl : u = Value.bool true := r'
        refine ⟨rfl, OldK.of_keep fun b o e => ?_, os, bare⟩
        cases q : H b with
        | none => exact un.keep b o e q (fun z => nomatch (show b ∈ ([] : List Addr) from z)) (by simp)
        | some u =>
          rcases hO b with z | ⟨ob, xs, z⟩
          · rw [q] at z; cases z
          · obtain ⟨e1, _⟩ := hok b _ z
            obtain ⟨e2, _⟩ := hok' b _ (un.frzs b ob _ z)
            rw [e] at e1; cases e1; exact e2
  cases hk : K.lookup a with
  | some o =>
    have e := KX a o hk
    rw [ha] at e; cases e
    exact main (fun _ => none) (fun _ => .inl rfl) (.inr ⟨_, us.toArray, _, hk, rfl, rfl, rfl, by rw [List.size_toArray, lenV]; exact hl, by simpa using rv⟩) (fun b u z => nomatch (show (none : Option HO) = some u from z)) (fun b z => absurd rfl z) fun z => absurd rfl z
  | none =>
    refine main (fun b => if b = a then some (.frz { cls := .type "list", data := .seq us.toArray } (.lst (ns.map V.int))) else none) (fun b => ?_) (.inl (.inr ⟨{ cls := .type "list", data := .seq us.toArray }, if_pos rfl⟩)) (fun b u z => ?_) (fun b z => ?_) fun _ => hk
    · by_cases hb : b = a
      · exact .inr ⟨_, _, if_pos hb⟩
      · exact .inl (if_neg hb)
    · by_cases hb : b = a
      · have z' := (if_pos hb).symm.trans z
        cases z'; subst hb
        exact ⟨ha, by rw [List.length_map]; exact hl, us, _, rv, ha⟩
      · exact nomatch ((if_neg hb).symm.trans z)
    · by_cases hb : b = a
      · exact hb
      · exact absurd (if_neg hb) z
theorem walk_top {l : PySem.W.OpenLaw} {n : Nat} {q : Program} {loose : List Str} {XP : (Str → Option Value) → Heap → Prop} {YP : World → Heap → Prop} {d : DefRec} {K : Params → PySem.W.Frag} {sp : World → Sp} {x : Str}
    (hn : l.most = some n) (hn2 : n ≤ sizeLine) (hdf : d.params.defaults = []) (hY : ∀ (w : World) (h : Heap), YP w h → (K w.params).In h)
    (F : ∀ (w : World) (mg : Str → Option Value) (fa : Addr) (h : Heap), (K w.params).In h → h.Ns mainGlobals mg → mg d.name = some (.ref fa) →
      ∃ fd : FuncData, (∀ (s : Shared) (u : Value), BindsTo s fd ⟨[u], []⟩ [(x, u)]) ∧ ∀ base : Heap, (K w.params).In base → base.Ns mainGlobals mg → AtTop l.prog w (K w.params) mg base fa fd [x] (sp w))
    (hsp : ∀ (w : World) (H : Hp) (a : Addr) (ns : List Int), ns.length ≤ n → Only H → SqL (K w.params) H a (ns.map V.int) → sp w [.ref a] H (fun v _ => v = .bl true) fun _ _ _ => False) :
    PySem.W.WalkO q loose XP YP l.row.toRowW d [] (fun f vs => PySem.call f vs) := by
  refine Att.attach_call hn hdf fun w s₀ s₁ mg mb fa o pm cd doc a us ns G Y ho hd hcd hmg hobj hints hlen hg => ?_
  obtain ⟨fd, hb, hF⟩ := F w mg fa _ (hY w _ Y) G.T.g hmg
  exact top_call (hY w _ Y) G.T.g G.T.b G.T.builtins G.T.nolimit hg hobj hints (Nat.le_trans hlen hn2) hF hb fun H hO hS => hsp w H a ns hlen hO hS
end My

set_option linter.all false
namespace My
open PySem PySem.Spec PyProof.Rows L2
abbrev sStir : Stmt := topS 19
abbrev sBegin : Stmt := topS 20
abbrev sDraw : Stmt := topS 21
/-! ### the other pen -/
structure PenD (H : Hp) (p c : Addr) (t : Nat) : Prop where
  ex : ∃ (cells : List Int) (at' a b : Int), H p = some (.lst [.ref c, .int at', .int a, .int b]) ∧ H c = some (.lst (cells.map V.int)) ∧ 0 ≤ at' ∧ at' ≤ (t : Int) ∧ cells.length ≤ 16 ∧ ∀ x ∈ cells, 0 ≤ x
theorem PenD.same {H H' : Hp} {p c : Addr} {t u : Nat} (e : Same H H') (h : t ≤ u) (P : PenD H p c t) : PenD H' p c u := by
  obtain ⟨cells, x, y, z, h1, h2, h3, h4, h5⟩ := P.ex
  exact ⟨cells, x, y, z, e _ _ h1, e _ _ h2, h3, by omega, h5⟩
theorem PenD.some {H : Hp} {p c : Addr} {t : Nat} (h : PenD H p c t) : H p ≠ none := by
  obtain ⟨cells, x, y, z, h1, _⟩ := h.ex
  rw [h1]; exact fun z => nomatch z
theorem PenD.at_c {H : Hp} {p c : Addr} {t : Nat} (h : PenD H p c t) : H c ≠ none := by
  obtain ⟨cells, x, y, z, _, h2, _⟩ := h.ex
  rw [h2]; exact fun z => nomatch z
theorem PenD.not {H : Hp} {p c l : Addr} {t : Nat} (h : PenD H p c t) (n : H l = none) : l ≠ p := fun z => h.some (by rw [← z]; exact n)
theorem PenD.agree {p c a : Addr} {t u : Nat} {H H' : Hp} (P : PenD H p c t) (h1 : a ≠ p) (h2 : a ≠ c) (g : ∀ b, b ≠ a → H' b = H b) (l : t ≤ u) : PenD H' p c u := by
  obtain ⟨cells, x, y, z, e1, e2, e3, e4, e5⟩ := P.ex
  exact ⟨cells, x, y, z, by rw [g p h1.symm]; exact e1, by rw [g c h2.symm]; exact e2, e3, by omega, e5⟩
def spStir : Sp := fun vs H Q _ => ∃ (c a : Int), vs = [.int c, .int a] ∧ 0 ≤ a ∧ a < 2 ^ 30 ∧ ∀ r : Int, 0 ≤ r → Q (.int r) H
def spBegin (K : PySem.W.Frag) : Sp := fun vs H Q _ => ∃ (a : Addr) (ns : List Int), vs = [.ref a] ∧ SqL K H a (ns.map V.int) ∧ ns.length ≤ 63 ∧ ∀ (p c : Addr) (H' : Hp), H p = none → Same H H' → PenD H' p c 0 → Q (.ref p) H'
def spDraw : Sp := fun vs H Q _ => ∃ (p c : Addr) (n : Int) (t : Nat), vs = [.ref p, .int n] ∧ 0 < n ∧ n.natAbs < 2 ^ 8000 ∧ PenD H p c t ∧ t < 2 ^ 29 ∧ ∀ (m : Int) (H' : Hp), 0 ≤ m → m < n → But p H H' → PenD H' p c (t + 1) → Q (.int m) H'
structure TxD (mg : Str → Option Value) : Prop where
  len : mg "len" = none
  range : mg "range" = none
  abs : mg "abs" = none
  enumerate : mg "enumerate" = none
section
variable {P : Program} {w : World} {K : PySem.W.Frag} {mg : Str → Option Value} {base : Heap}
theorem scStir : FnScope ["cell", "at", "prime", "found", "turn"] ["cell", "at"] (defScope sStir) := ⟨rfl, rfl, rfl, by decide +kernel, rfl, by decide +kernel, by decide +kernel⟩
theorem scBegin : FnScope ["script", "cells", "at", "cell"] ["script"] (defScope sBegin) := ⟨rfl, rfl, rfl, by decide +kernel, rfl, by decide +kernel, by decide +kernel⟩
theorem scDraw : FnScope ["pen", "many", "cells", "at", "cell", "found"] ["pen", "many"] (defScope sDraw) := ⟨rfl, rfl, rfl, by decide +kernel, rfl, by decide +kernel, by decide +kernel⟩
theorem ok_stir {f : Addr} {fd : FuncData} (F : Fun K "_law_stir" "_law_stir" sStir f fd) (T : TxD mg) : FnOk P w K mg base CX0 1 f fd ["cell", "at"] spStir := by
  refine F.ok scStir (fun vs H Q E h => ?_) (fun cdv A outer s H vs Q E hr h => ?_)
  · obtain ⟨c, a, rfl, _⟩ := h
    rfl
  · obtain ⟨c, a, rfl, a0, a1, k⟩ := h
    refine ⟨_, (pss_cons (ps_set (i := 2) scStir.nd rfl (Or.inl rfl) pe_int)
      (pss_cons (ps_set (i := 3) scStir.nd rfl (Or.inl rfl) (pe_op op_add (pe_op op_add (pe_op op_mod (pv 0) (pv 2)) (pe_op op_mul pe_int (pv 1))) pe_int))
      (pss_cons (ps_for PassesOwn.never rfl (pi_range1 (by rfl) T.range (pa_cons pe_int pa_nil)) (pg_name (i := 4) scStir.nd rfl (Or.inl rfl)) (pss_one (ps_set (i := 3) scStir.nd rfl (Or.inl rfl) (pe_op op_mod (pe_op op_add (pe_op op_add (pe_op op_add (pe_op op_mul (pv 3) (pv 3)) (pe_op op_mul (pv 3) (pe_op op_add (pe_op op_mul pe_int (pv 4)) pe_int))) (pe_op op_mul pe_int (pv 1))) pe_int) (pv 2)))))
      (pss_one (ps_ret (pe_op op_add (pe_op op_mul (pv 3) (pv 2)) (pe_op op_mod (pe_op op_add (pe_op op_mul (pv 3) pe_int) (pv 1)) (pv 2)))))))), ?_⟩
    have c0 := Int.emod_nonneg c (show (1000000000000000003 : Int) ≠ 0 by decide)
    have c1 := Int.emod_lt_of_pos c (show (0 : Int) < 1000000000000000003 by decide)
    refine ⟨_, rfl, _, rfl, _, _, rfl, rfl, (by show (0 : Int) < 1000000000000000003; decide), _, rfl, _, _, rfl, rfl, .inl ⟨by decide, by decide⟩, _, _, rfl, rfl, _, _, rfl, rfl, ?_⟩
    dsimp only
    refine ⟨5, rfl, by decide, by decide, for_range (n := 5) (fun i σ H2 => ∃ (f : Int) (x4 : Option V), σ = [some (.int c), some (.int a), some (.int 1000000000000000003), some (.int f), x4] ∧ 0 ≤ f ∧ f < 2 ^ 63 ∧ H2 = H) ⟨_, none, rfl, by omega, by omega, rfl⟩ ?_ ?_⟩
    · rintro i σ H2 hi ⟨f, x4, rfl, f0, f1, rfl⟩
      refine ⟨_, rfl, _, rfl, _, _, rfl, rfl, .inl ⟨by omega, by omega⟩, _, rfl, _, rfl, _, _, rfl, rfl, .inl ⟨by decide, by decide⟩, _, _, rfl, rfl, _, _, rfl, rfl, .inl ⟨by omega, by omega⟩, _, _, rfl, rfl, _, rfl, _, _, rfl, rfl, .inl ⟨by decide, by decide⟩, _, _, rfl, rfl, _, _, rfl, rfl, _, rfl, _, _, rfl, rfl, (by show (0 : Int) < 1000000000000000003; decide), ?_⟩
      dsimp only
      generalize f * f + f * (2 * (0 + (i : Int)) + 3) + 1000003 * a + 71 = z
      have z0 := Int.emod_nonneg z (show (1000000000000000003 : Int) ≠ 0 by decide)
      have z1 := Int.emod_lt_of_pos z (show (0 : Int) < 1000000000000000003 by decide)
      exact ⟨_, _, rfl, z0, by omega, rfl⟩
    · rintro σ H2 ⟨f, x4, rfl, f0, f1, rfl⟩
      refine ⟨_, rfl, _, rfl, _, _, rfl, rfl, .inl ⟨by omega, by omega⟩, _, rfl, _, _, rfl, rfl, .inl ⟨by omega, by omega⟩, _, rfl, _, _, rfl, rfl, _, rfl, _, _, rfl, rfl, (by show (0 : Int) < 1000000000000000003; decide), _, _, rfl, rfl, ?_⟩
      refine k _ ?_
      have z0 := Int.emod_nonneg (f * 48611 + a) (show (1000000000000000003 : Int) ≠ 0 by decide)
      omega
theorem abs_nn (i : Int) : 0 ≤ (if i < 0 then -i else i) := by split <;> omega
theorem cut16 (ns : List Int) : ∃ ms : List Int, cutV (ns.map V.int) none (some 16) = ms.map V.int ∧ ms.length = min 16 ns.length := by
  obtain ⟨ms, h1, h2⟩ := cut_ints ns none (some 16)
  refine ⟨ms, h1, ?_⟩
  rw [h2, List.length_take, List.length_drop]
  have a1 : HT.sIx ns.length 0 none = 0 := rfl
  have a2 : HT.sIx ns.length ns.length (some 16) = min 16 ns.length := sIx_nat _ _ 16
  rw [a1, a2]; omega
theorem cut64 (ns : List Int) : ∃ ms : List Int, cutV (ns.map V.int) (some 16) (some 64) = ms.map V.int ∧ ms.length ≤ ns.length - 16 := by
  obtain ⟨ms, h1, h2⟩ := cut_ints ns (some 16) (some 64)
  refine ⟨ms, h1, ?_⟩
  rw [h2, List.length_take, List.length_drop]
  have a1 : HT.sIx ns.length 0 (some 16) = min 16 ns.length := sIx_nat _ _ 16
  have a2 : HT.sIx ns.length ns.length (some 64) = min 64 ns.length := sIx_nat _ _ 64
  rw [a1, a2]; omega
theorem ok_begin {f : Addr} {fd : FuncData} (F : Fun K "_law_begin" "_law_begin" sBegin f fd) (T : TxD mg) : FnOk P w K mg base CX0 1 f fd ["script"] (spBegin K) := by
  refine F.ok scBegin (fun vs H Q E h => ?_) (fun cdv A outer s H vs Q E hr h => ?_)
  · obtain ⟨a, ns, rfl, _⟩ := h
    rfl
  · obtain ⟨a, ns, rfl, hS, hl, k⟩ := h
    refine ⟨_, (pss_cons (ps_setLc (i := 1) (own := [("cell", 3)]) (g := gName 3) (tt := tYes) rfl scBegin.nd rfl (by rfl) (sw_true (by rfl) (by rfl) (by rfl) (by rfl)) (pi_list (pe_slice sl_list (pv 0) po_none (po_some pe_int))) (blkOk_by (N := ["script", "cells", "at", "cell"]) (sc := defScope sBegin) (by decide +kernel)) (fun _ _ _ _ _ => (pg_name (i := 3) scBegin.nd rfl (Or.inl rfl))) (fun _ _ _ _ _ => pts_nil) (fun _ _ _ _ _ => (pe_callB call_abs (by rfl) T.abs boot_abs (pa_cons (pv 3) pa_nil))))
      (pss_cons (ps_for PassesOwn.never rfl (pi_enum (by rfl) T.enumerate (pa_cons (pe_slice sl_list (pv 0) (po_some pe_int) (po_some pe_int)) pa_nil)) (pg_tup (by rfl) (pgs_cons (pg_name (i := 2) scBegin.nd rfl (Or.inl rfl)) (pgs_cons (pg_name (i := 3) scBegin.nd rfl (Or.inl rfl)) pgs_nil))) (pss_one (ps_asg (pe_op op_add (pe_ix ix_list (pv 1) (pe_op op_mod (pv 2) pe_int) (fun _ _ => rfl)) (pe_callB call_abs (by rfl) T.abs boot_abs (pa_cons (pv 3) pa_nil))) (pg_sub (pv 1) (pe_op op_mod (pv 2) pe_int) set_list))))
      (pss_one (ps_ret (pe_lst (pa_cons (pv 1) (pa_cons pe_int (pa_cons pe_int (pa_cons pe_int pa_nil))))))))), ?_⟩
    obtain ⟨ms, e1, l1⟩ := cut16 ns
    obtain ⟨us, e2, l2⟩ := cut64 ns
    refine ⟨_, rfl, 16, rfl, a, _, rfl, hS, fun p1 n1 => ?_⟩
    rw [e1]
    have s1 : Same H (upd H p1 (.lst (ms.map V.int))) := Same.upd n1
    have h1 : (upd H p1 (.lst (ms.map V.int))) p1 = some (.lst (ms.map V.int)) := upd_same
    generalize upd H p1 (.lst (ms.map V.int)) = H1 at s1 h1
    refine ⟨p1, rfl, ⟨_, SqL.of h1⟩, fun D nD => ?_⟩
    refine lc_it (walk_list (K := K) (a := p1) (xs := ms.map V.int)) (fun j Hi => Same H1 Hi ∧ ∃ cs : List Int, Hi D = some (.lst (cs.map V.int)) ∧ cs.length = j ∧ ∀ x ∈ cs, 0 ≤ x)
      ⟨Same.upd nD, [], upd_same, rfl, fun _ h => nomatch h⟩ (fun j Hi _ q => SqL.of (q.1 _ _ h1)) ?_ ?_
    · rintro j x Hi Hj hj ⟨sj, cs, hD, cl, hc⟩ ⟨rfl, hx⟩
      rw [List.getElem?_map] at hx
      obtain ⟨z, hz, rfl⟩ := Option.map_eq_some_iff.mp hx
      refine ⟨rfl, ?_⟩
      refine ⟨_, rfl, z, rfl, ?_⟩
      refine ⟨_, hD, by rw [List.length_map, sizeLine_eq]; rw [List.length_map] at hj; omega, fun c o g => ?_, cs ++ [if z < 0 then -z else z], by rw [upd_same, List.map_append]; rfl, by rw [List.length_append, cl]; rfl, fun y hy => ?_⟩
      · rw [upd_ne (ne_of_none g nD)]; exact sj c o g
      · rcases List.mem_append.mp hy with h | h
        · exact hc y h
        · rw [List.mem_singleton.mp h]; exact abs_nn z
    · rintro H2 ⟨s2, cs, hD, cl, hc⟩
      rw [List.length_map] at cl
      refine ⟨_, rfl, 16, rfl, 64, rfl, a, _, rfl, (s1.trans s2).seq hS, fun p2 n2 => ?_⟩
      rw [e2]
      have D2 : D ≠ p2 := ne_of_none hD n2
      have sp : Same H2 (upd H2 p2 (.lst (us.map V.int))) := Same.upd n2
      have hp2 : (upd H2 p2 (.lst (us.map V.int))) p2 = some (.lst (us.map V.int)) := upd_same
      have hDp := sp _ _ hD
      generalize upd H2 p2 (.lst (us.map V.int)) = H3 at sp hp2 hDp
      refine ⟨p2, us.map V.int, rfl, SqL.of hp2, for_it (walk_enum (K := K) (a := p2) (xs := us.map V.int)) (fun i σ Ho => ∃ (x2 x3 : Option V) (ks : List Int), σ = [some (.ref a), some (.ref D), x2, x3] ∧ Ho D = some (.lst (ks.map V.int)) ∧ ks.length = ms.length ∧ (∀ x ∈ ks, 0 ≤ x) ∧ ∀ b o, b ≠ D → H3 b = some o → Ho b = some o) ?_ ?_ ?_ ?_⟩
      · exact ⟨none, none, cs, rfl, hDp, cl, hc, fun _ _ _ e => e⟩
      · rintro i σ Ho hi ⟨x2, x3, ks, rfl, _, _, _, kp⟩
        exact SqL.of (kp _ _ D2.symm hp2)
      · rintro i x σ Ho Ho' hi ⟨x2, x3, ks, rfl, hk, kl, k0, kp⟩ ⟨T', y, z, rfl, hT, rfl, ey, ez⟩
        obtain rfl : V.int ((i : Nat) : Int) = y := Option.some.inj ey
        have hi' : i < us.length := by rw [List.length_map] at hi; exact hi
        obtain ⟨v, rfl⟩ : ∃ v, z = V.int v := by
          have ez' : (us.map V.int)[i]? = some z := ez
          rw [List.getElem?_map, List.getElem?_eq_getElem hi'] at ez'
          exact ⟨us[i], (Option.some.inj ez').symm⟩
        have m16 : ms.length = 16 := by omega
        have DT : D ≠ T' := ne_of_none hk hT
        have b0 := Int.emod_nonneg ((i : Nat) : Int) (show (16 : Int) ≠ 0 by decide)
        have b1 := Int.emod_lt_of_pos ((i : Nat) : Int) (show (0 : Int) < 16 by decide)
        obtain ⟨j, hj⟩ : ∃ j : Nat, ((i : Nat) : Int) % 16 = (j : Int) := ⟨(((i : Nat) : Int) % 16).toNat, by omega⟩
        have jl : j < ks.length := by omega
        have hu : atI (ks.map V.int) (((i : Nat) : Int) % 16) = some (.int ks[j]) := by
          rw [hj]
          exact atI_nat (by rw [List.getElem?_map, List.getElem?_eq_getElem jl]; rfl)
        refine ⟨T', _, rfl, SqT.of upd_same, rfl, _, _, rfl, _, _, rfl, rfl, ?_⟩
        refine ⟨_, rfl, _, rfl, _, _, rfl, rfl, (by show (0 : Int) < 16; decide), D, _, _, _, rfl, rfl, SqL.of (by rw [upd_ne DT]; exact hk), hu, _, rfl, v, rfl, _, _, rfl, rfl, ?_⟩
        have hjx : ixN (ks.map V.int).length (((i : Nat) : Int) % 16) = some j := by
          unfold ixN
          rw [List.length_map, if_pos b0, if_pos (by omega), hj]; rfl
        refine ⟨_, rfl, _, rfl, _, _, rfl, rfl, (by show (0 : Int) < 16; decide), D, _, _, _, rfl, rfl, (by rw [upd_ne DT]; exact hk), hjx, ?_⟩
        refine ⟨_, _, ks.set j (ks[j] + if v < 0 then -v else v), rfl, by rw [upd_same, List.map_set], by rw [List.length_set]; exact kl, fun y hy => ?_, fun b o hb e => ?_⟩
        · rcases List.mem_or_eq_of_mem_set hy with h | h
          · exact k0 y h
          · have := k0 _ (List.getElem_mem jl)
            have := abs_nn v
            rw [h]; omega
        · rw [upd_ne hb, upd_ne (ne_of_none (kp b o hb e) hT)]
          exact kp b o hb e
      · rintro σ Ho ⟨x2, x3, ks, rfl, hk, kl, k0, kp⟩
        refine ⟨_, rfl, (by show 4 ≤ sizeLine; decide), fun p np => ?_⟩
        have sH : Same H Ho := fun b o e => kp b o (ne_of_none (s1 b o e) nD) (sp _ _ (s2 _ _ (s1 b o e)))
        have Dp : D ≠ p := ne_of_none hk np
        exact k p D _ (sH.free np) (sH.trans (Same.upd np)) ⟨ks, 0, 0, 0, upd_same, by rw [upd_ne Dp]; exact hk, by decide, by decide, by omega, k0⟩
theorem dp_intsD {H : Hp} {a : Addr} {l : List Int} (h : H a = some (.lst (l.map V.int))) : Dp K H (.ref a) (.list (l.map PyData.int)) := by
  refine .lst (SqL.of h) ?_
  clear h
  induction l with
  | nil => exact .nil
  | cons x r ih => exact .cons (.int x) ih
theorem shp_intsD (l : List Int) : SeqAt.shaped (.list (l.map PyData.int)) = true := by
  have h1 : PyData.canLayAll0 (l.map PyData.int) = true := by
    induction l with
    | nil => simp [PyData.canLayAll0]
    | cons x r ih => simp only [List.map_cons, PyData.canLayAll0, PyData.canLay0, ih, Bool.and_true]
  have h2 : PyData.depthAll (l.map PyData.int) = 0 := by
    clear h1
    induction l with
    | nil => simp only [List.map_nil, PyData.depthAll]
    | cons x r ih => simp only [List.map_cons, PyData.depthAll, PyData.depth, ih]; rfl
  unfold SeqAt.shaped
  simp only [PyData.canLay0, PyData.depth, h1, h2]
  rfl
theorem ne_nilD {l : List Int} : (!PyData.eqv (.list (l.map PyData.int)) (.list [])) = !l.isEmpty := by
  cases l with
  | nil => simp [PyData.eqv, PyData.eqvAll]
  | cons a r => simp [PyData.eqv, PyData.eqvAll]
theorem int_atD {xs : List Int} {i : Int} (h0 : 0 ≤ i) (h1 : i < xs.length) : ∃ v : Int, v ∈ xs ∧ atI (xs.map V.int) i = some (.int v) := by
  obtain ⟨j, rfl⟩ : ∃ j : Nat, i = (j : Int) := ⟨i.toNat, by omega⟩
  have hj : j < xs.length := by omega
  exact ⟨xs[j], List.getElem_mem hj, atI_nat (by rw [List.getElem?_map, List.getElem?_eq_getElem hj]; rfl)⟩
theorem log_small {i : Int} (h : i.natAbs < 2 ^ 8000) (h0 : 0 < i) : i.natAbs.log2 < 9000 := Nat.lt_trans (PySem.Flt.log2_lt_of (k := 8000) (by decide) h) (by decide)
theorem ok_draw {f fS : Addr} {fd fdS : FuncData} (F : Fun K "_law_draw" "_law_draw" sDraw f fd) (T : TxD mg) (FS : Fun K "_law_stir" "_law_stir" sStir fS fdS) (bS : Binds K fdS ["cell", "at"] []) (gS : mg "_law_stir" = some (.ref fS)) :
    FnOk P w K mg base CX0 2 f fd ["pen", "many"] spDraw := by
  have GS : FnOk P w K mg base CX0 1 fS fdS ["cell", "at"] spStir := ok_stir FS T
  refine F.ok scDraw (fun vs H Q E h => ?_) (fun cdv A outer s H vs Q E hr h => ?_)
  · obtain ⟨p, c, n, t, rfl, _⟩ := h
    rfl
  · obtain ⟨p, c, n, t, rfl, n0, nb, PA, tb, k⟩ := h
    obtain ⟨cells, a1, r1, q1, hp, hc, a10, a11, cl, cn⟩ := PA.ex
    have ncp : c ≠ p := fun z => by
      rw [z, hp] at hc
      cases cells with
      | nil => cases hc
      | cons x r => cases hc
    refine ⟨_, (C8.pss_cut (ps_if (pt_cmpR op_lt (pe_ix ix_list (pv 0) pe_int (fun _ _ => rfl)) (pv 1) (nomark _)) (pss_cons (ps_par (i := 2) (j := 3) (by rfl) scDraw.nd rfl rfl (by decide) rfl rfl (pa_cons (pe_ix ix_list (pv 0) pe_int (fun _ _ => rfl)) (pa_cons (pe_ix ix_list (pv 0) pe_int (fun _ _ => rfl)) pa_nil)) (by rfl))
      (C8.pss_cut (ps_set (i := 4) scDraw.nd rfl (Or.inl rfl) (pe_ifExp (pt_cmpR (op_neD hr.units) (pv 2) (pe_lst pa_nil) (nomark _)) (pe_ix ix_list (pv 2) (pe_op op_mod (pv 3) (pe_callB call_len_seq (by rfl) T.len PySem.boot_len (pa_cons (pv 2) pa_nil))) (fun _ _ => rfl)) pe_int))
      (C8.pss_cut (ps_if (PW.pt (pw_or (pt_cmpR op_ge (pv 3) (pe_callB call_len_seq (by rfl) T.len PySem.boot_len (pa_cons (pv 2) pa_nil)) (nomark _)) (pw_or1 (pt_cmpR op_lt (pv 4) pe_int (nomark _))))) (pss_one (ps_set (i := 4) scDraw.nd rfl (Or.inl rfl) (pe_call GS hr (by rfl) gS FS.kp bS .nil pass0 (pa_cons (pe_op op_add (pe_op op_mod (pv 4) pe_int) (pe_op op_fdivW (pv 3) (pe_op op_add (pe_callB call_len_seq (by rfl) T.len PySem.boot_len (pa_cons (pv 2) pa_nil)) pe_int))) (pa_cons (pv 3) pa_nil))))) pss_nil)
      (pss_cons (ps_asg (pe_op op_add (pv 3) pe_int) (pg_sub (pv 0) pe_int set_list))
      (pss_cons (ps_asg (pv 4) (pg_sub (pv 0) pe_int set_list))
      (pss_one (ps_asg (pv 4) (pg_sub (pv 0) pe_int set_list)))))))) pss_nil)
      (pss_cons (ps_set (i := 5) scDraw.nd rfl (Or.inl rfl) (pe_op op_mod (pe_ix ix_list (pv 0) pe_int (fun _ _ => rfl)) (pv 1)))
      (pss_cons (ps_asg (pe_op op_fdivW (pe_ix ix_list (pv 0) pe_int (fun _ _ => rfl)) (pv 1)) (pg_sub (pv 0) pe_int set_list))
      (pss_cons (ps_asg (pe_op op_fdivW (pe_ix ix_list (pv 0) pe_int (fun _ _ => rfl)) (pv 1)) (pg_sub (pv 0) pe_int set_list))
      (pss_one (ps_ret (pv 5))))))), ?_⟩
    -- what holds behind the if
    refine ⟨fun σ H2 => ∃ (x2 x3 x4 : Option V) (a2 r2 q2 : Int), σ = [some (.ref p), some (.int n), x2, x3, x4, none] ∧ H2 p = some (.lst [.ref c, .int a2, .int r2, .int q2]) ∧ H2 c = some (.lst (cells.map V.int)) ∧ 0 ≤ a2 ∧ a2 ≤ (t : Int) + 1 ∧ But p H H2, ?_, ?_⟩
    · refine ⟨_, rfl, p, _, 3, .int q1, rfl, rfl, SqL.of hp, atI_nat (j := 3) rfl, _, rfl, _, _, rfl, rfl, _, rfl, ite2 (fun _ => ?_) (fun _ => ?_)⟩
      · refine ⟨_, rfl, p, _, 0, .ref c, rfl, rfl, SqL.of hp, atI_nat (j := 0) rfl, _, rfl, p, _, 1, .int a1, rfl, rfl, SqL.of hp, atI_nat (j := 1) rfl, _, _, rfl, ?_⟩
        refine ⟨fun σ H2 => ∃ z : Int, σ = [some (.ref p), some (.int n), some (.ref c), some (.int a1), some (.int z), none] ∧ 0 ≤ z ∧ Same H H2, ?_, ?_⟩
        · refine ⟨_, rfl, (by show 0 ≤ sizeLine; decide), fun l nl => ?_⟩
          have s1 : Same H (upd H l (.lst [])) := Same.upd nl
          have hl : (upd H l (.lst [])) l = some (.lst []) := upd_same
          generalize upd H l (.lst []) = H1 at s1 hl
          have hc1 := s1 _ _ hc
          refine ⟨.list (cells.map PyData.int), .list [], dp_intsD hc1, .lst (SqL.of hl) .nil, shp_intsD cells, by decide, _, rfl, ite2 (fun ne => ?_) (fun _ => ⟨0, rfl, Int.le_refl 0, s1⟩)⟩
          rw [ne_nilD] at ne
          have ln : 0 < cells.length := by
            cases cells with
            | nil => simp at ne
            | cons x r => simp
          obtain ⟨v, vin, hv⟩ := int_atD (xs := cells) (i := a1 % (((cells.map V.int).length : Nat) : Int)) (Int.emod_nonneg _ (by rw [List.length_map]; omega)) (by
            have := Int.emod_lt_of_pos a1 (show (0 : Int) < (((cells.map V.int).length : Nat) : Int) by rw [List.length_map]; omega)
            rw [List.length_map] at this ⊢; exact this)
          exact ⟨_, rfl, _, rfl, _, rfl, c, _, rfl, .inl (SqL.of hc1), _, _, rfl, rfl, by rw [List.length_map]; omega, c, _, _, .int v, rfl, rfl, SqL.of hc1, hv, v, rfl, cn v vin, s1⟩
        rintro σ H1 ⟨z, rfl, z0, s1⟩
        have hc1 := s1 _ _ hc
        have hp1 := s1 _ _ hp
        refine ⟨fun σ H2 => ∃ z : Int, σ = [some (.ref p), some (.int n), some (.ref c), some (.int a1), some (.int z), none] ∧ 0 ≤ z ∧ H2 = H1, ?_, ?_⟩
        · have go : ∀ Qx : VK, (∀ r : Int, 0 ≤ r → Qx (.int r) H1) → (tCall spStir [] E0 (tCons (tOp (rI0 fun i j => V.int (i + j)) (tOp (rI (fun _ j => 0 < j) fun i j => V.int (i % j)) (tVar 4) (tC (V.int 1000000000000))) (tOp (rI CDivW fun i j => V.int (i / j)) (tVar 3) (tOp (rI0 fun i j => V.int (i + j)) (tCB (fun xs H_1 Q => ∃ p ys, xs = [V.ref p] ∧ (SqL K H_1 p ys ∨ SqT K H_1 p ys) ∧ Q (V.int ↑ys.length) H_1) (tCons (tVar 2) tNil)) (tC (V.int 1))))) (tCons (tVar 3) tNil))) [some (.ref p), some (.int n), some (.ref c), some (.int a1), some (.int z), none] H1 Qx := by
            intro Qx q
            refine ⟨_, rfl, _, _, rfl, rfl, (by show (0 : Int) < 1000000000000; decide), _, rfl, _, rfl, c, _, rfl, .inl (SqL.of hc1), _, _, rfl, rfl, _, _, rfl, rfl, ⟨by omega, ?_⟩, _, _, rfl, rfl, _, rfl, _, _, rfl, a10, by omega, q⟩
            rw [List.length_map]
            exact log_small (Nat.lt_of_le_of_lt (show ((cells.length : Int) + 1).natAbs ≤ 1000 by omega) (by decide)) (by omega)
          refine ⟨_, rfl, _, rfl, c, _, rfl, .inl (SqL.of hc1), _, _, rfl, rfl, _, rfl, ite2 (fun _ => ?_) (fun _ => ?_)⟩
          · exact go _ fun r r0 => ⟨r, rfl, r0, rfl⟩
          · refine ⟨_, rfl, _, _, rfl, rfl, _, rfl, ite2 (fun _ => ?_) (fun _ => ⟨z, rfl, z0, rfl⟩)⟩
            exact go _ fun r r0 => ⟨r, rfl, r0, rfl⟩
        rintro σ H2 ⟨z, rfl, z0, rfl⟩
        refine ⟨_, rfl, _, _, rfl, rfl, _, rfl, p, _, 1, 1, rfl, rfl, hp1, rfl, ?_⟩
        have u1 : (upd H2 p (.lst ([V.ref c, .int a1, .int r1, .int q1].set 1 (.int (a1 + 1))))) p = some (.lst [.ref c, .int (a1 + 1), .int r1, .int q1]) := upd_same
        refine ⟨_, rfl, _, rfl, p, _, 2, 2, rfl, rfl, u1, rfl, ?_⟩
        refine ⟨_, rfl, _, rfl, p, _, 3, 3, rfl, rfl, upd_same, rfl, ?_⟩
        refine ⟨_, _, _, a1 + 1, z, z, rfl, upd_same, ?_, by omega, by omega, (((But.of s1).trans But.upd).trans But.upd).trans But.upd⟩
        rw [upd_ne ncp, upd_ne ncp, upd_ne ncp]; exact hc1
      · exact ⟨_, _, _, a1, r1, q1, rfl, hp, hc, a10, by omega, fun _ _ _ e => e⟩
    · rintro σ H2 ⟨x2, x3, x4, a2, r2, q2, rfl, h2, h2c, g1, g2, b2⟩
      refine ⟨_, rfl, p, _, 2, .int r2, rfl, rfl, SqL.of h2, atI_nat (j := 2) rfl, _, rfl, _, _, rfl, rfl, n0, ?_⟩
      refine ⟨_, rfl, p, _, 2, .int r2, rfl, rfl, SqL.of h2, atI_nat (j := 2) rfl, _, rfl, _, _, rfl, rfl, ⟨n0, log_small nb n0⟩, _, rfl, p, _, 2, 2, rfl, rfl, h2, rfl, ?_⟩
      have u1 : (upd H2 p (.lst ([V.ref c, .int a2, .int r2, .int q2].set 2 (.int (r2 / n))))) p = some (.lst [.ref c, .int a2, .int (r2 / n), .int q2]) := upd_same
      refine ⟨_, rfl, p, _, 3, .int q2, rfl, rfl, SqL.of u1, atI_nat (j := 3) rfl, _, rfl, _, _, rfl, rfl, ⟨n0, log_small nb n0⟩, _, rfl, p, _, 3, 3, rfl, rfl, u1, rfl, ?_⟩
      refine ⟨_, rfl, k _ _ (Int.emod_nonneg _ (by omega)) (Int.emod_lt_of_pos _ n0) ((b2.trans But.upd).trans But.upd) ⟨cells, a2, r2 / n, q2 / n, upd_same, ?_, g1, by omega, cl, cn⟩⟩
      rw [upd_ne ncp, upd_ne ncp]; exact h2c
end
end My

namespace My
open PySem PySem.Spec PyProof.Rows L2
/-! ### texts -/
abbrev tl (x : Str) : List Nat := x.cps.toList
theorem len_tl (x : Str) : x.length = (tl x).length := by simp [tl, Str.length]
theorem tl_ap (x y : Str) : tl (x ++ y) = tl x ++ tl y := by
  show (x ++ y).cps.toList = _
  rw [Str.cps_append, Array.toList_append]
def ofL (l : List Nat) : Str := ⟨l.toArray⟩
theorem tl_ofL (l : List Nat) : tl (ofL l) = l := rfl
theorem ofL_tl (x : Str) : ofL (tl x) = x := Str.ext' (by simp [ofL, tl])
/-- x * k, k at least 1 -/
def rMulS : R2 := fun x y H Q => ∃ (z : Str) (k : Nat), x = .str z ∧ y = .int k ∧ 1 ≤ k ∧ k ≤ 1000 ∧ z.length ≤ 1000 ∧ Q (.str (ofL (List.replicate k (tl z)).flatten)) H
theorem fold_cat : ∀ (k : Nat) (a b : Array Nat), ((List.replicate k b).foldl (· ++ ·) a).toList = a.toList ++ (List.replicate k b.toList).flatten
  | 0, a, b => by simp
  | k + 1, a, b => by
    rw [List.replicate_succ, List.foldl_cons, fold_cat k, List.replicate_succ, List.flatten_cons, Array.toList_append, List.append_assoc]
theorem op_mulS {X : Cx} : OpR X (binaryOp .Mult) rMulS := by
  intro pins s σ H x y v u Q I rx ry h
  obtain ⟨z, k, rfl, rfl, k1, k2, hz, q⟩ := h
  obtain ⟨t, rfl⟩ := rx
  obtain ⟨t', rfl⟩ := ry
  have big : ((z.length : Int)) ≤ (2 ^ 63 - 1) / (k : Int) := by
    rw [Int.le_ediv_iff_mul_le (by omega)]
    have : (z.length : Int) * (k : Int) ≤ 1000 * 1000 := Int.mul_le_mul (by omega) (by omega) (by omega) (by decide)
    omega
  have small : z.length * k ≤ 1000 * 1000 := Nat.mul_le_mul hz k2
  refine PySem.P.mul_str (by
    have h1 : ¬ ((k : Int) < -(2 ^ 63 : Int)) := by omega
    have h2 : ¬ ((k : Int) ≥ 2 ^ 63) := by omega
    rw [decide_eq_false h1, decide_eq_false h2]; rfl) (fun _ _ => by omega) (fun _ _ => ?_) ?_
  · rw [Int.toNat_natCast]
    refine decide_eq_false ?_
    have := line63
    show ¬ (z.length * k > _)
    have e : sizeLine = 16777216 := sizeLine_eq
    omega
  · rw [if_neg (by omega)]
    by_cases c : ((k : Int) == 1 || z.length == 0) = true
    · rw [if_pos c]
      have e : ofL (List.replicate k (tl z)).flatten = z := by
        rcases (Bool.or_eq_true _ _).mp c with c | c
        · have k1 : k = 1 := by have := (beq_iff_eq).mp c; omega
          subst k1
          show ofL (tl z ++ []) = z
          rw [List.append_nil, ofL_tl]
        · have z0 : tl z = [] := by
            have := (beq_iff_eq).mp c
            rw [len_tl] at this
            exact List.eq_nil_of_length_eq_zero this
          have : (List.replicate k (tl z)).flatten = [] := by rw [z0]; simp
          rw [this, ← z0, ofL_tl]
      rw [e] at q
      exact ⟨.str z, H, I, ⟨t, rfl⟩, q⟩
    · rw [if_neg c, Int.toNat_natCast]
      have e : (⟨(List.replicate k z.cps).foldl (· ++ ·) #[]⟩ : Str) = ofL (List.replicate k (tl z)).flatten := Str.ext' (Array.toList_inj.mp (by rw [fold_cat]; simp [ofL, tl]))
      rw [e]
      refine ⟨?_, .str _, H, I.tok _, ⟨_, rfl⟩, q⟩
      show (ofL (List.replicate k (tl z)).flatten).length ≤ sizeLine
      rw [len_tl, tl_ofL, List.length_flatten, List.map_replicate, List.sum_replicate_nat, ← len_tl, Nat.mul_comm, sizeLine_eq]
      omega
/-! ### letters -/
def Lets (l : List Nat) : Prop := ∀ c ∈ l, 97 ≤ c ∧ c ≤ 122
structure NameOk (x : Str) : Prop where
  lets : Lets (tl x)
  lo : 1 ≤ x.length
  hi : x.length ≤ 8
def sgS : Str := "abcdefghijklmnopqrstuvwxyz"
theorem sg_tl : tl sgS = (List.range 26).map (97 + ·) := by decide +kernel
theorem sg_len : sgS.length = 26 := by rw [len_tl, sg_tl]; decide
theorem sg_at {i : Int} (h0 : 0 ≤ i) (h1 : i < 26) : atI sgS.cps.toList i = some (97 + i.toNat) := by
  obtain ⟨j, rfl⟩ : ∃ j : Nat, i = (j : Int) := ⟨i.toNat, by omega⟩
  refine atI_nat ?_
  show (tl sgS)[j]? = _
  rw [sg_tl, List.getElem?_map, List.getElem?_range (by omega)]
  simp
def chr (i : Int) : Str := ⟨#[97 + i.toNat]⟩
theorem tl_chr (i : Int) : tl (chr i) = [97 + i.toNat] := rfl
theorem chr_len (i : Int) : (chr i).length = 1 := rfl
theorem lets_chr {i : Int} (h0 : 0 ≤ i) (h1 : i < 26) : Lets (tl (chr i)) := fun c hc => by
  rw [tl_chr] at hc
  have := List.mem_singleton.mp hc
  omega
theorem flat1 (m c : Nat) : (List.replicate m [c]).flatten = List.replicate m c := by
  induction m with
  | zero => rfl
  | succ n ih => rw [List.replicate_succ, List.flatten_cons, ih, List.replicate_succ]; rfl
def repC (m : Nat) (i : Int) : Str := ofL (List.replicate m (tl (chr i))).flatten
theorem tl_repC (m : Nat) (i : Int) : tl (repC m i) = List.replicate m (97 + i.toNat) := by
  show (List.replicate m [97 + i.toNat]).flatten = _
  exact flat1 m _
theorem repC_ok {m : Nat} {i : Int} (h0 : 0 ≤ i) (h1 : i < 26) (m1 : 1 ≤ m) (m2 : m ≤ 8) : NameOk (repC m i) := by
  refine ⟨fun c hc => ?_, ?_, ?_⟩
  · rw [tl_repC] at hc
    have := (List.mem_replicate.mp hc).2
    omega
  · rw [len_tl, tl_repC, List.length_replicate]; exact m1
  · rw [len_tl, tl_repC, List.length_replicate]; exact m2
theorem repC_inj {m n : Nat} {i j : Int} (m1 : 1 ≤ m) (h0 : 0 ≤ i) (h1 : 0 ≤ j) (h : repC m i = repC n j) : m = n ∧ i = j := by
  have e : List.replicate m (97 + i.toNat) = List.replicate n (97 + j.toNat) := by rw [← tl_repC, ← tl_repC, h]
  have l := congrArg List.length e
  rw [List.length_replicate, List.length_replicate] at l
  subst l
  refine ⟨rfl, ?_⟩
  have z : (97 + i.toNat) ∈ List.replicate m (97 + j.toNat) := by rw [← e]; exact List.mem_replicate.mpr ⟨by omega, rfl⟩
  have := (List.mem_replicate.mp z).2
  omega
def mid (x : Str) (a : Nat) (i : Int) : Str := cutS x none (some (a : Int)) ++ chr i ++ cutS x (some (a : Int)) none
theorem tl_cut_to (x : Str) {a : Nat} (h : a ≤ x.length) : tl (cutS x none (some (a : Int))) = (tl x).take a := by
  show ((x.cps.toList.drop 0).take (HT.sIx x.length x.length (some (a : Int)) - 0)) = _
  rw [sIx_nat, Nat.min_eq_left h]; rfl
theorem tl_cut_from (x : Str) {a : Nat} (h : a ≤ x.length) : tl (cutS x (some (a : Int)) none) = (tl x).drop a := by
  show ((x.cps.toList.drop (HT.sIx x.length 0 (some (a : Int)))).take (x.length - HT.sIx x.length 0 (some (a : Int)))) = _
  rw [sIx_nat, Nat.min_eq_left h]
  refine List.take_of_length_le ?_
  rw [List.length_drop, len_tl]
  exact Nat.le_refl _
theorem tl_mid (x : Str) {a : Nat} (i : Int) (h : a ≤ x.length) : tl (mid x a i) = (tl x).take a ++ [97 + i.toNat] ++ (tl x).drop a := by
  unfold mid
  rw [tl_ap, tl_ap, tl_cut_to x h, tl_cut_from x h, tl_chr]
theorem mid_ok {x : Str} {a : Nat} {i : Int} (h : a ≤ x.length) (hx : Lets (tl x)) (hl : x.length ≤ 7) (h0 : 0 ≤ i) (h1 : i < 26) : NameOk (mid x a i) := by
  have hl' := len_tl x
  have e : (mid x a i).length = x.length + 1 := by
    rw [len_tl, tl_mid x i h, List.length_append, List.length_append, List.length_take, List.length_drop, ← hl']
    simp only [List.length_cons, List.length_nil]
    omega
  refine ⟨fun c hc => ?_, by omega, by omega⟩
  rw [tl_mid x i h] at hc
  rcases List.mem_append.mp hc with hc | hc
  · rcases List.mem_append.mp hc with hc | hc
    · exact hx c (List.mem_of_mem_take hc)
    · have := List.mem_singleton.mp hc; omega
  · exact hx c (List.mem_of_mem_drop hc)
theorem mid_inj {x : Str} {a : Nat} {i j : Int} (h : a ≤ x.length) (h0 : 0 ≤ i) (h1 : 0 ≤ j) (e : mid x a i = mid x a j) : i = j := by
  have z : (tl x).take a ++ [97 + i.toNat] ++ (tl x).drop a = (tl x).take a ++ [97 + j.toNat] ++ (tl x).drop a := by rw [← tl_mid x i h, ← tl_mid x j h, e]
  have y := List.append_cancel_left (List.append_cancel_right z)
  injection y with y _
  omega
theorem nodup_of {α : Type} {f : Nat → α} {m : Nat} (h : ∀ i j, i < j → j < m → f i ≠ f j) : ((List.range m).map f).Nodup :=
  List.pairwise_map.mpr (List.Pairwise.imp_of_mem (R := (· < ·)) (fun {i j} _ hj hlt => h i j hlt (List.mem_range.mp hj)) List.pairwise_lt_range)
def nm0 (f a : Int) (k : Nat) : Str := repC (1 + ((a + 3 * k) % 8).toNat) ((f + 5 * k) % 26)
def nm1 (f a : Int) (k : Nat) : Str := repC (1 + ((a + k) % 8).toNat) f
def nm2 (x : Str) (f : Int) (a : Nat) (k : Nat) : Str := mid x a ((f + 5 * k) % 26)
structure NamesOk (ns : List Str) (m : Nat) : Prop where
  len : ns.length = m
  nod : ns.Nodup
  ok : ∀ x ∈ ns, NameOk x
theorem names_of {f : Nat → Str} {m : Nat} (h : ∀ i j, i < j → j < m → f i ≠ f j) (ok : ∀ i, i < m → NameOk (f i)) : NamesOk ((List.range m).map f) m :=
  ⟨by simp, nodup_of h, fun x hx => by
    obtain ⟨i, hi, rfl⟩ := List.mem_map.mp hx
    exact ok i (List.mem_range.mp hi)⟩
theorem md {x k : Int} (h : 0 < k) : 0 ≤ x % k ∧ x % k < k := ⟨Int.emod_nonneg _ (by omega), Int.emod_lt_of_pos _ h⟩
theorem names0 {f a : Int} {m : Nat} (hm : m ≤ 8) : NamesOk ((List.range m).map (nm0 f a)) m :=
  names_of (fun i j h1 h2 e => by
    have r1 := md (x := f + 5 * i) (k := 26) (by decide)
    have r2 := md (x := f + 5 * j) (k := 26) (by decide)
    have := (repC_inj (by omega) r1.1 r2.1 e).2
    omega) fun i _ => by
    have r1 := md (x := f + 5 * i) (k := 26) (by decide)
    have r2 := md (x := a + 3 * i) (k := 8) (by decide)
    exact repC_ok r1.1 r1.2 (by omega) (by omega)
theorem names1 {f a : Int} {m : Nat} (hm : m ≤ 8) (f0 : 0 ≤ f) (f1 : f < 26) : NamesOk ((List.range m).map (nm1 f a)) m :=
  names_of (fun i j h1 h2 e => by
    have r1 := md (x := a + i) (k := 8) (by decide)
    have r2 := md (x := a + j) (k := 8) (by decide)
    have := (repC_inj (by omega) f0 f0 e).1
    omega) fun i _ => by
    have r2 := md (x := a + i) (k := 8) (by decide)
    exact repC_ok f0 f1 (by omega) (by omega)
theorem names2 {x : Str} {f : Int} {a m : Nat} (hm : m ≤ 8) (h : a ≤ x.length) (hx : Lets (tl x)) (hl : x.length ≤ 7) : NamesOk ((List.range m).map (nm2 x f a)) m :=
  names_of (fun i j h1 h2 e => by
    have r1 := md (x := f + 5 * i) (k := 26) (by decide)
    have r2 := md (x := f + 5 * j) (k := 26) (by decide)
    have := mid_inj h r1.1 r2.1 e
    omega) fun i _ => by
    have r1 := md (x := f + 5 * i) (k := 26) (by decide)
    exact mid_ok h hx hl r1.1 r1.2
/-! ### joined -/
theorem join_nil (ys : List Str) : tl (Txt.join "" ys) = (ys.map tl).flatten := by
  show tl (Builtin.Str.glued (Str.ofString "") ys) = _
  rw [StrLaws.glued_eq_join]
  have e0 : tl (Str.ofString "") = [] := by decide +kernel
  have key : ∀ zs : List Str, tl (Str.join (Str.ofString "") zs) = (zs.map tl).flatten := by
    intro zs
    induction zs with
    | nil => rfl
    | cons x r ih =>
      cases r with
      | nil => show tl x = _; simp
      | cons y r =>
        show tl (x ++ Str.ofString "" ++ Str.join (Str.ofString "") (y :: r)) = _
        rw [tl_ap, tl_ap, e0, List.append_nil, ih]; rfl
  exact key ys
theorem join_chrs {cs : List Int} (h : ∀ c ∈ cs, 0 ≤ c ∧ c < 26) : Lets (tl (Txt.join "" (cs.map chr))) ∧ (Txt.join "" (cs.map chr)).length = cs.length := by
  have e : tl (Txt.join "" (cs.map chr)) = cs.map fun c => 97 + c.toNat := by
    rw [join_nil, List.map_map]
    clear h
    induction cs with
    | nil => rfl
    | cons c r ih => rw [List.map_cons, List.flatten_cons, ih]; rfl
  refine ⟨fun c hc => ?_, by rw [len_tl, e, List.length_map]⟩
  rw [e] at hc
  obtain ⟨d, hd, rfl⟩ := List.mem_map.mp hc
  have := h d hd
  omega
end My

namespace My
open PySem PySem.Spec PyProof.Rows L2
def spNames : Sp := fun vs H Q _ => ∃ (p pc : Addr) (m t : Nat), vs = [.ref p, .int m] ∧ m ≤ 8 ∧ PenC H p pc t ∧ t + 20 < 2 ^ 29 ∧
  ∀ (l : Addr) (ns : List Str) (H' : Hp), NamesOk ns m → H l = none → But p H H' → PenC H' p pc (t + 11) → H' l = some (.lst (ns.map V.str)) → Q (.ref l) H'
structure TxN (mg : Str → Option Value) : Prop where
  len : mg "len" = none
  range : mg "range" = none
section
variable {P : Program} {w : World} {K : PySem.W.Frag} {mg : Str → Option Value} {base : Heap}
theorem small_nat {k : Nat} (h : k ≤ 1000) : (k : Int).natAbs < 2 ^ 8000 := Nat.lt_of_le_of_lt (show (k : Int).natAbs ≤ 1000 by omega) (by decide)
theorem small_int {k : Int} (h0 : 0 ≤ k) (h : k ≤ 1000) : k.natAbs < 2 ^ 8000 := Nat.lt_of_le_of_lt (show k.natAbs ≤ 1000 by omega) (by decide)
theorem map_snoc (f : Nat → Str) (i : Nat) : (((List.range i).map f).map V.str) ++ [V.str (f i)] = ((List.range (i + 1)).map f).map V.str := by
  rw [List.range_succ, List.map_append, List.map_append]; rfl
end
end My

namespace My
open PySem PySem.Spec PyProof.Rows L2
/-! ### sorted(d), d a dict with keys (int, str) -/
theorem perm_lift {α β : Type} {f : α → β} {l l' : List β} (h : l.Perm l') : ∀ m : List α, l' = m.map f → ∃ m' : List α, m'.Perm m ∧ l = m'.map f := by
  induction h with
  | nil => intro m e; cases m with | nil => exact ⟨[], .refl _, rfl⟩ | cons _ _ => cases e
  | cons x _ ih =>
    intro m e
    cases m with
    | nil => cases e
    | cons a r =>
      injection e with e1 e2
      obtain ⟨m', p, q⟩ := ih r e2
      exact ⟨a :: m', p.cons a, by rw [List.map_cons, ← q, e1]⟩
  | swap x y l =>
    intro m e
    cases m with
    | nil => cases e
    | cons a r =>
      cases r with
      | nil => cases e
      | cons b r =>
        injection e with e1 e2
        injection e2 with e2 e3
        exact ⟨b :: a :: r, .swap _ _ _, by rw [List.map_cons, List.map_cons, e1, e2, e3]⟩
  | trans _ _ ih1 ih2 =>
    intro m e
    obtain ⟨m1, p1, q1⟩ := ih2 m e
    obtain ⟨m2, p2, q2⟩ := ih1 m1 q1
    exact ⟨m2, p2.trans p1, q2⟩
def pk (q : Int × Str) : List Key := [.inl q.1, .inr q.2]
def pv2 (q : Int × Str) : List V := [.int q.1, .str q.2]
theorem pk_kv (q : Int × Str) : (pk q).map kV = pv2 q := rfl
def Tp (h : Heap) (b : Addr) (q : Int × Str) : Prop := ∃ t u o n, h.get? b = some o ∧ o.cls = .type "tuple" ∧ o.data = .seq #[.int q.1 t, .str q.2 u] n
theorem Tp.keep {h h' : Heap} {b : Addr} {q : Int × Str} (k : ∀ o, h.get? b = some o → h'.get? b = some o) (x : Tp h b q) : Tp h' b q := by
  obtain ⟨t, u, o, n, ho, r⟩ := x
  exact ⟨t, u, o, n, k o ho, r⟩
theorem tups_of {h : Heap} : ∀ {zs : List (Addr × Int × Str)}, (∀ z ∈ zs, Tp h z.1 z.2) → ∃ fs, TupsOf h PyProof.Rows.G.sh1 (zs.map fun z => Value.ref z.1) fs
  | [], _ => ⟨[], .nil⟩
  | z :: zs, hz => by
    obtain ⟨fs, hf⟩ := tups_of fun y hy => hz y (List.mem_cons_of_mem _ hy)
    obtain ⟨t, u, o, n, ho, hc, hd⟩ := hz z List.mem_cons_self
    exact ⟨_, .cons ⟨z.1, o, _, n, rfl, ho, hc, hd, rfl, fun _ => ⟨_, _, rfl⟩, fun e => absurd e (by decide)⟩ hf⟩
section
variable {X : Cx} {pins : List (Addr × Obj)} {σ : L2.St} {H : Hp} {s : Shared}
theorem tp_of (I : Inv X pins σ H s) {b : Addr} {q : Int × Str} (h : H b = some (.tup (pv2 q))) : Tp s.heap b q := by
  obtain ⟨_, its, r, o, ho, hc, n, hd⟩ := I.hok b _ h
  cases r with
  | cons r1 r2 =>
    cases r2 with
    | cons r2 r3 =>
      cases r3
      obtain ⟨t, rfl⟩ := r1
      obtain ⟨u, rfl⟩ := r2
      exact ⟨t, u, o, n, ho, hc, hd⟩
theorem paired_zs {H : Hp} : ∀ {kvs : List (List Key × V)} {xs : List (List Key × Addr × Value)} {ps : List (Int × Str)}, Paired (fun (p : List Key × V) (q : List Key × Addr × Value) => p.1 = q.1 ∧ H q.2.1 = some (.tup (p.1.map kV)) ∧ RelV p.2 q.2.2) kvs xs → kvs.map (·.1) = ps.map pk →
    ∃ zs : List (Addr × Int × Str), zs.map (·.2) = ps ∧ (∀ z ∈ zs, H z.1 = some (.tup (pv2 z.2))) ∧ zs.map (fun z => Value.ref z.1) = xs.map fun q => Value.ref q.2.1
  | _, _, [], .nil, _ => ⟨[], rfl, (fun _ h => nomatch h), rfl⟩
  | _, _, _ :: _, .nil, e => nomatch e
  | _, _, [], .cons _ _, e => nomatch e
  | (k, v) :: kvs, x :: xs, q :: ps, .cons ⟨h1, h2, _⟩ t, e => by
    injection e with e1 e2
    obtain ⟨zs, g1, g2, g3⟩ := paired_zs t e2
    have e1' : k = pk q := e1
    subst e1'
    refine ⟨(x.2.1, q) :: zs, by rw [List.map_cons, g1], fun z hz => ?_, by rw [List.map_cons, List.map_cons, g3]⟩
    rcases List.mem_cons.mp hz with rfl | hz
    · exact h2
    · exact g2 z hz
def rSortP : List V → Hp → VK → Prop := fun xs H Q => ∃ (a : Addr) (kvs : List (List Key × V)) (ps : List (Int × Str)), xs = [.ref a] ∧ H a = some (.dT kvs) ∧ kvs.map (·.1) = ps.map pk ∧
    ∀ (zs : List (Addr × Int × Str)) (p : Addr), (zs.map (·.2)).Perm ps → (∀ z ∈ zs, H z.1 = some (.tup (pv2 z.2))) → H p = none → Q (.ref p) (upd H p (.lst (zs.map fun z => V.ref z.1)))
theorem vals_refs : ∀ zs : List (Addr × Int × Str), Vals (zs.map fun z => V.ref z.1) (zs.map fun z => Value.ref z.1)
  | [] => .nil
  | _ :: zs => .cons rfl (vals_refs zs)
theorem call_sortedDT (hcalm : X.calm = true) : CallR X (.builtin "sorted") rSortP := by
  intro pins s σ H xs us Q I r q
  obtain ⟨a, kvs, ps, ex, hd, hks, q⟩ := q
  subst ex
  obtain ⟨u, eu, rx⟩ := vals1 r
  subst eu
  cases rx
  obtain ⟨z, lo, xs, pr, o, es, ep, ho, hx, hdat, hes, nd⟩ := I.hok a _ hd
  obtain ⟨zs, y1, y2, y3⟩ := paired_zs pr hks
  have hlx : es.size = zs.length := by
    rw [← Array.length_toList, hes, List.length_map]
    have := congrArg List.length y3
    rw [List.length_map, List.length_map] at this
    exact this.symm
  have hlk : zs.length = kvs.length := by
    have e1 := congrArg List.length y1
    have e2 := congrArg List.length hks
    rw [List.length_map] at e1
    rw [List.length_map, List.length_map] at e2
    omega
  have h16 : es.size ≤ sizeLine := by rw [hlx, hlk]; exact z
  refine Calls.call_function_entry PyProof.Rows.kind_sorted PyProof.Rows.plain_sorted PyProof.Rows.entry_sorted (PyProof.Rows.args_sorted1 _) ?_
  unfold Builtin.«sorted»
  refine wpAny_bind (m := checkCount "sorted" 1 1 _) (wpAny_pure ?_)
  refine wpAny_bind (PySem.W.kdu_collect (A := X.A.in1) (KdlSrc.rawDict (es := es) (ep := ep) lo) (I.ok.hd hcalm) ⟨o, ho, hx, hdat⟩ h16 fun h' tk acc hk hacc => ?_)
  have hacc2 : acc.toList = zs.map fun z => Value.ref z.1 := by
    refine List.ext_getElem? fun j => ?_
    rw [y3]
    have e0 : (es.toList)[j]? = (xs.map (entryOfKey (tupleKind (mixKind X.prog X.w))))[j]? := by rw [hes]
    rw [Array.getElem?_toList, List.getElem?_map] at e0
    rw [Array.getElem?_toList, List.getElem?_map]
    cases hj : acc[j]? with
    | none =>
      have : acc.size ≤ j := Array.getElem?_eq_none_iff.mp hj
      rw [hacc.1] at this
      rw [Array.getElem?_eq_none this] at e0
      cases hxj : xs[j]? with
      | none => rfl
      | some _ => rw [hxj] at e0; cases e0
    | some v =>
      obtain ⟨hi, hv⟩ := hacc.2 j v hj
      rw [Array.getElem?_eq_getElem hi] at e0
      cases hxj : xs[j]? with
      | none => rw [hxj] at e0; cases e0
      | some w' =>
        rw [hxj] at e0
        have e1 := Option.some.inj e0
        rw [hv, e1]; rfl
  have hal : acc.toList.length = zs.length := by rw [hacc2, List.length_map]
  have I1 : Inv X pins σ H { s with heap := h', toks := tk } := I.kept hk
  refine wpAny_bind (wpAny_newList ?_ (by rw [hal, hlk]; exact z))
  have hoL : (h'.push (seqObj "list" acc.toList.toArray 0)).get? h'.objs.size = some (seqObj "list" acc.toList.toArray 0) := Heap.get?_push_size _ rfl
  show wpAny _ _ _ _ _ { s with heap := h'.push (seqObj "list" acc.toList.toArray 0), toks := tk }
  have hT : ∀ z ∈ zs, Tp (h'.push (seqObj "list" acc.toList.toArray 0)) z.1 z.2 := fun z hz => Tp.keep (fun o e => Heap.get?_push_of_some _ e) (tp_of I1 (y2 z hz))
  obtain ⟨fs, hfs⟩ := tups_of hT
  rw [← hacc2] at hfs
  refine wpAny_bind (wpAny_holding (wpAny_call_entry PyProof.Rows.slot_list_sort ⟨_, hoL, rfl⟩ PyProof.Rows.entry_list_sort
    (PyProof.Rows.G.list_sort_tups (shape := PyProof.Rows.G.sh1) (fs := fs) (s := { s with heap := h'.push (seqObj "list" acc.toList.toArray 0), toks := tk }) hoL hfs (fun v hv => ?_) (by rw [hal, hlk]; exact z) fun st' hp hs _ => ⟨_, rfl, ?_⟩)
    (PyProof.Rows.args_list_sort _)))
  · rw [hacc2] at hv
    obtain ⟨z, hz, rfl⟩ := List.mem_map.mp hv
    obtain ⟨t, u, o, n, ho, hc, hd⟩ := hT z hz
    exact ⟨_, PyProof.Rows.G.tupKeyC_of ho hc hd (PyProof.Rows.G.two_items rfl)⟩
  have hpm : ((arrOf st').map (·.2)).toList.Perm (zs.map fun z => Value.ref z.1) := by
    have e := Array.perm_iff_toList_perm.mp hp
    rw [pairsOf_toList] at e
    have e2 := e.map (·.2)
    rw [hacc2] at e2
    rw [Array.toList_map]
    refine e2.trans (List.Perm.of_eq ?_)
    rw [List.map_snd_zip (Nat.le_refl _)]
  obtain ⟨zs', g1, g2⟩ := perm_lift hpm zs rfl
  obtain ⟨e', he'⟩ := PyProof.Rows.sortedHeap_at (vs := acc.toList) (out := (arrOf st').map (·.2)) hoL
  have hlen : (zs'.map fun z => V.ref z.1).length ≤ sizeLine := by
    rw [List.length_map, g1.length_eq, hlk]
    exact z
  refine wpAny_pure ⟨_, rfl, .ref h'.objs.size, upd H h'.objs.size (.lst (zs'.map fun z => V.ref z.1)), I1.laid (t' := tk) (fun b u e => ?_) (Nat.le_refl _)
    (show ObjOk X.prog X.w _ _ _ (.lst (zs'.map fun z => V.ref z.1)) from ⟨hlen, ((arrOf st').map (·.2)).toList, e', by rw [g2]; exact vals_refs zs', by rw [Array.toArray_toList]; exact he'⟩), rfl, q zs' _ ?_ (fun z hz => y2 z (g1.mem_iff.mp hz)) (I1.hok.fresh (Nat.le_refl _))⟩
  · have hb : b < h'.objs.size := Heap.lt_size e
    rw [PyProof.Rows.sortedHeap_old (Nat.ne_of_lt hb) (by rw [size_push']; exact Nat.lt_succ_of_lt hb)]
    exact Heap.get?_push_of_some _ e
  · rw [← y1]; exact g1.map _
end
end My

namespace My
open PySem PySem.Spec PyProof.Rows L2
/-! ### dict(l), l a list of pairs ((int, str), True) -/
def mergeT (kvs more : List (List Key × V)) : List (List Key × V) := more.foldl (fun acc kv => putK acc kv.1 kv.2) kvs
structure KeysIn (S : Int × Str → Prop) (n : Nat) (kvs : List (List Key × V)) : Prop where
  ex : ∃ ps : List (Int × Str), kvs.map (·.1) = ps.map pk ∧ (∀ q ∈ ps, S q) ∧ ps.length ≤ n
theorem KeysIn.nil {S : Int × Str → Prop} : KeysIn S 0 [] := ⟨[], rfl, (fun _ h => nomatch h), Nat.le_refl _⟩
theorem KeysIn.put {S : Int × Str → Prop} {n : Nat} {kvs : List (List Key × V)} (h : KeysIn S n kvs) {q : Int × Str} (hq : S q) (v : V) : KeysIn S (n + 1) (putK kvs (pk q) v) := by
  obtain ⟨ps, h1, h2, h3⟩ := h.ex
  unfold putK
  by_cases c : (kvs.any fun kv => decide (kv.1 = pk q)) = true
  · rw [if_pos c]
    refine ⟨ps, ?_, h2, by omega⟩
    rw [← h1, List.map_map]
    refine List.map_congr_left fun kv _ => ?_
    show (if kv.1 = pk q then (kv.1, v) else kv).1 = kv.1
    by_cases e : kv.1 = pk q
    · rw [if_pos e]
    · rw [if_neg e]
  · rw [if_neg c]
    refine ⟨ps ++ [q], by rw [List.map_append, List.map_append, h1]; rfl, fun x hx => ?_, by rw [List.length_append]; simpa using h3⟩
    rcases List.mem_append.mp hx with hx | hx
    · exact h2 x hx
    · rw [List.mem_singleton.mp hx]; exact hq
theorem KeysIn.merge {S : Int × Str → Prop} (v : V) : ∀ {L : List (Int × Str)} {n : Nat} {kvs : List (List Key × V)}, KeysIn S n kvs → (∀ q ∈ L, S q) → KeysIn S (n + L.length) (mergeT kvs (L.map fun q => (pk q, v)))
  | [], n, kvs, h, _ => h
  | q :: L, n, kvs, h, hL => by
    have := KeysIn.merge v (L := L) (h.put (hL q List.mem_cons_self) v) fun x hx => hL x (List.mem_cons_of_mem _ hx)
    rw [List.length_cons, show n + (L.length + 1) = n + 1 + L.length by omega]
    exact this
theorem KeysIn.len {S : Int × Str → Prop} {n : Nat} {kvs : List (List Key × V)} (h : KeysIn S n kvs) : kvs.length ≤ n := by
  obtain ⟨ps, h1, _, h3⟩ := h.ex
  have := congrArg List.length h1
  rw [List.length_map, List.length_map] at this
  omega
theorem KT.merge {H : Hp} : ∀ {zs : List (Addr × Addr × (Int × Str))} {kvs : List (List Key × V)} {xs : List (List Key × Addr × Value)}, KT H kvs xs → (∀ z ∈ zs, H z.2.1 = some (.tup (pv2 z.2.2))) →
    KT H (mergeT kvs (zs.map fun z => (pk z.2.2, V.bl true))) (PySem.storedAllH xs (zs.map fun z => (pk z.2.2, z.2.1, Value.bool true)))
  | [], _, _, h, _ => h
  | z :: zs, kvs, xs, h, hz => KT.merge (zs := zs) (KT.put h (pk z.2.2) (hz z List.mem_cons_self) (show RelV (.bl true) (.bool true) from rfl)) fun y hy => hz y (List.mem_cons_of_mem _ hy)
def rDictTP (K : PySem.W.Frag) : List V → Hp → VK → Prop := fun xs H Q => ∃ (a : Addr) (zs : List (Addr × Addr × (Int × Str))), xs = [.ref a] ∧ SqL K H a (zs.map fun z => V.ref z.1) ∧ (∀ z ∈ zs, H z.1 = some (.tup [.ref z.2.1, .bl true]) ∧ H z.2.1 = some (.tup (pv2 z.2.2))) ∧ zs.length ≤ 1000 ∧
  ∀ p, H p = none → Q (.ref p) (upd H p (.dT (mergeT [] (zs.map fun z => (pk z.2.2, .bl true)))))
section
variable {X : Cx}
theorem call_dictTP (hcalm : X.calm = true) (hu : X.A.units + 64 < cLine) : CallR X (.type "dict") (rDictTP X.K) := by
  intro pins s σ H xs us Q I r q
  obtain ⟨a, zs, ex, hq, hz, hz0, q⟩ := q
  subst ex
  obtain ⟨u, eu, rx⟩ := vals1 r
  subst eu
  cases rx
  obtain ⟨its, rv, pl, hsz⟩ := I.list hq
  obtain ⟨o, n, ho, hc, hd, hdat⟩ := pl
  have ei : its = zs.map fun z => Value.ref z.1 := by
    have := refs_at (ps := zs.map (·.1)) (us := its) (by rw [List.map_map]; exact rv)
    rw [this, List.map_map]; rfl
  subst ei
  have hnew : ∀ b, H b ≠ none → b ≠ s.heap.objs.size := fun b h e => h (by rw [e]; exact I.hok.fresh (Nat.le_refl _))
  refine PySem.call_dict_pairsH (knd := tupleKind (mixKind X.prog X.w)) (ps := zs.map fun z => (pk z.2.2, z.2.1, Value.bool true))
    (PySem.PairArg.list a (zs.map fun z => Value.ref z.1).toArray (fun j => ((zs[j]?).map (·.1)).getD 0) (zs.map fun z => (Value.ref z.2.1, Value.bool true))) (I.ok.hd hcalm) (show X.A.in1.in1.units < cLine by show X.A.units + 1 + 1 < cLine; omega)
    ⟨⟨o, n, ho, hc, hd, hdat⟩, ?_⟩ ⟨by rw [List.length_map, List.length_map], fun i key v e => ?_⟩ (fun h' hk x hx => ?_) (by rw [List.length_map, sizeLine_eq]; omega) fun h' tk hd' hk => ?_
  · refine ⟨by simp, fun j k v e => ?_⟩
    rw [List.getElem?_map] at e
    cases ez : zs[j]? with
    | none => rw [ez] at e; cases e
    | some z =>
      rw [ez] at e
      have e := Option.some.inj e
      cases e
      refine ⟨by simp [ez], .inl ?_⟩
      obtain ⟨_, its, rv2, o2, ho2, hc2, n2, hd2⟩ := I.hok _ _ (hz z (List.mem_of_getElem? ez)).1
      obtain ⟨x1, x2, ei2, r1, r2⟩ := vals2 rv2
      subst ei2
      cases r1; cases r2
      exact ⟨o2, (by show s.heap.get? (((zs[j]?).map (·.1)).getD 0) = _; rw [ez]; exact ho2), hc2, n2, hd2⟩
  · have e' : (zs.map fun z => (Value.ref z.2.1, Value.bool true))[i]? = some (key, v) := e
    rw [List.getElem?_map] at e'
    cases ez : zs[i]? with
    | none => rw [ez] at e'; cases e'
    | some z =>
      rw [ez] at e'
      have e' := Option.some.inj e'
      cases e'
      exact ⟨pk z.2.2, z.2.1, by rw [List.getElem?_map, ez]; rfl, rfl⟩
  · obtain ⟨z, hzm, rfl⟩ := List.mem_map.mp hx
    have h2 := (hz z hzm).2
    obtain ⟨o3, its3, n3, g1, g2⟩ := key_of (P := X.prog) (w := X.w) (ks := pk z.2.2) I.hok h2
    exact ⟨o3, its3, n3, hk _ _ (hnew _ (by rw [h2]; exact fun y => nomatch y)) (by simp) g1, g2⟩
  · obtain ⟨od, es, ep, hod, h2, h3, h4, _, h5⟩ := hd'
    have hm : (s.heap.objs.size == sysModules) = false := beq_eq_false_iff_ne.mpr (Nat.ne_of_gt I.big)
    have kin := (KeysIn.nil (S := fun _ => True)).merge (.bl true) (L := zs.map fun z => z.2.2) fun q hq => trivial
    rw [List.map_map] at kin
    have hlen : (mergeT [] (zs.map fun z => (pk z.2.2, V.bl true))).length ≤ sizeLine := by
      have := kin.len
      rw [List.length_map] at this
      rw [sizeLine_eq]
      refine Nat.le_trans this (by omega)
    have rel : KT H (mergeT [] (zs.map fun z => (pk z.2.2, V.bl true))) (PySem.storedAllH [] (zs.map fun z => (pk z.2.2, z.2.1, Value.bool true))) := KT.merge .nil fun z hzm => (hz z hzm).2
    refine ⟨.ref s.heap.objs.size, upd H s.heap.objs.size (.dT (mergeT [] (zs.map fun z => (pk z.2.2, V.bl true)))), I.laid (t' := tk) (fun b o e => hk b o (by simp) e) (Nat.le_refl _) ⟨hlen, hm, _, rel.keeps fun c ys ec => ?_, od, es, ep, hod, h2, h3, h4, h5⟩, rfl, q _ (I.hok.fresh (Nat.le_refl _))⟩
    rw [upd_ne (hnew c (by rw [ec]; exact fun y => nomatch y))]
    exact ec
end
end My

namespace My
open PySem PySem.Spec PyProof.Rows L2
/-! ### the pen moves, what stands grows, tuples may come to stand -/
def NoTup (o : Option HO) : Prop := o ≠ none ∧ ∀ ys, o ≠ some (.tup ys)
def IsL (o : Option HO) : Prop := ∃ xs, o = some (.lst xs)
structure Mw (p : Addr) (G H G' H' : Hp) : Prop where
  gg : Same G G'
  gh : Same G' H'
  bt : But p H H'
  pl : IsL (H p)
  pl' : IsL (H' p)
  old : ∀ c, NoTup (H c) → G' c = G c
theorem IsL.nt {o : Option HO} (h : IsL o) : NoTup o := by
  obtain ⟨xs, rfl⟩ := h
  exact ⟨(fun z => nomatch z), fun ys z => nomatch z⟩
theorem PenC.isL {H : Hp} {p pc : Addr} {t : Nat} (P : PenC H p pc t) : IsL (H p) := by
  obtain ⟨cells, x, y, h, _⟩ := P.ex
  exact ⟨_, h⟩
theorem NoTup.but {p c : Addr} {H H' : Hp} (b : But p H H') (l : IsL (H' p)) (h : NoTup (H c)) : NoTup (H' c) := by
  by_cases e : c = p
  · rw [e]; exact l.nt
  · cases q : H c with
    | none => exact absurd q h.1
    | some o => rw [b c o e q, ← q]; exact h
theorem Mw.trans {p : Addr} {G H G1 H1 G2 H2 : Hp} (a : Mw p G H G1 H1) (b : Mw p G1 H1 G2 H2) : Mw p G H G2 H2 :=
  ⟨a.gg.trans b.gg, b.gh, a.bt.trans b.bt, a.pl, b.pl', fun c h => by rw [b.old c (h.but a.bt a.pl'), a.old c h]⟩
theorem Mw.gp {p : Addr} {G H G1 H1 : Hp} (a : Mw p G H G1 H1) (n : G p = none) : G1 p = none := by rw [a.old p a.pl.nt]; exact n
theorem Mw.keep {p c : Addr} {G H G1 H1 : Hp} (a : Mw p G H G1 H1) (h : IsL (H c)) (n : G c = none) : G1 c = none := by rw [a.old c h.nt]; exact n
theorem Mw.take {p pc : Addr} {G H H1 : Hp} {t u : Nat} (e : Same G H) (n : G p = none) (P : PenC H p pc t) (P1 : PenC H1 p pc u) (b : But p H H1) : Mw p G H G H1 :=
  ⟨Same.refl G, same_but e n b, b, P.isL, P1.isL, fun _ _ => rfl⟩
theorem Mw.nw {p pc : Addr} {G H G1 H1 : Hp} {t : Nat} (m : Nw G H G1 H1) (P : PenC H p pc t) : Mw p G H G1 H1 := by
  obtain ⟨xs, h⟩ := P.isL
  exact ⟨m.gg, m.gh, But.of m.hh, ⟨xs, h⟩, ⟨xs, m.hh _ _ h⟩, fun c hc => m.old c hc.1⟩
theorem Mw.more {p : Addr} {G H G1 H1 H2 : Hp} (m : Mw p G H G1 H1) (s : Same H1 H2) : Mw p G H G1 H2 := by
  obtain ⟨xs, h⟩ := m.pl'
  exact ⟨m.gg, m.gh.trans s, m.bt.trans (But.of s), m.pl, ⟨xs, s _ _ h⟩, m.old⟩
def alls (G H : Hp) : Hp := fun c => match H c with | some (.tup ys) => some (.tup ys) | _ => G c
theorem alls_tup {G H : Hp} {c : Addr} {ys : List V} (h : H c = some (.tup ys)) : alls G H c = some (.tup ys) := by unfold alls; rw [h]
theorem alls_no {G H : Hp} {c : Addr} (h : ∀ ys, H c ≠ some (.tup ys)) : alls G H c = G c := by
  unfold alls
  split
  · rename_i ys e; exact absurd e (h ys)
  · rfl
theorem alls_gg {G H : Hp} (e : Same G H) : Same G (alls G H) := fun c o h => by
  have h1 := e c o h
  cases o with
  | tup ys => exact alls_tup h1
  | _ => rw [alls_no (fun ys z => by rw [h1] at z; cases z)]; exact h
theorem alls_gh {G H : Hp} (e : Same G H) : Same (alls G H) H := fun c o h => by
  by_cases q : ∃ ys, H c = some (.tup ys)
  · obtain ⟨ys, hy⟩ := q
    rw [alls_tup hy] at h
    rw [hy]; exact h
  · rw [alls_no (fun ys z => q ⟨ys, z⟩)] at h
    exact e c o h
theorem Mw.all {p : Addr} {G H G1 H1 : Hp} (m : Mw p G H G1 H1) : Mw p G H (alls G1 H1) H1 :=
  ⟨m.gg.trans (alls_gg m.gh), alls_gh m.gh, m.bt, m.pl, m.pl', fun c h => by rw [alls_no (h.but m.bt m.pl').2, m.old c h]⟩
/-! ### rows -/
def rowD (row : List (Int × Str)) : PyData := .tuple (row.map fun q => .tuple [.int q.1, .str q.2])
def InB (b : Int) (ns : List Str) (q : Int × Str) : Prop := 0 ≤ q.1 ∧ q.1 < b ∧ q.2 ∈ ns
structure RowIn (b : Int) (ns : List Str) (most : Nat) (row : List (Int × Str)) : Prop where
  mem : ∀ q ∈ row, InB b ns q
  len : row.length ≤ most
def spRow (K : PySem.W.Frag) : Sp := fun vs H Q _ => ∃ (p pc ln : Addr) (b : Int) (ns : List Str) (most t : Nat) (G : Hp), vs = [.ref p, .int b, .ref ln, .int most] ∧ 2 ≤ b ∧ b ≤ 10 ∧ ns ≠ [] ∧ ns.length ≤ 8 ∧ most ≤ 12 ∧ PenC H p pc t ∧ t + 40 < 2 ^ 29 ∧
  Same G H ∧ G p = none ∧ ln ≠ p ∧ H ln = some (.lst (ns.map V.str)) ∧
  ∀ (v : V) (row : List (Int × Str)) (G' H' : Hp), Mw p G H G' H' → PenC H' p pc (t + 1 + 2 * most) → Dq K G' v (rowD row) → RowIn b ns most row → Q v H'
structure TxR (mg : Str → Option Value) : Prop where
  len : mg "len" = none
  range : mg "range" = none
  tuple : mg "tuple" = none
  sorted : mg "sorted" = none
theorem dq_pair2 {K : PySem.W.Frag} {G : Hp} {a : Addr} {q : Int × Str} (h : G a = some (.tup (pv2 q))) : Dq K G (.ref a) (.tuple [.int q.1, .str q.2]) := .tup h (.cons (.int _) (.cons (.str _) .nil))
theorem dq_zs {K : PySem.W.Frag} {G : Hp} : ∀ {zs : List (Addr × Int × Str)}, (∀ z ∈ zs, G z.1 = some (.tup (pv2 z.2))) → DqAll K G (zs.map fun z => V.ref z.1) ((zs.map (·.2)).map fun q => .tuple [.int q.1, .str q.2])
  | [], _ => .nil
  | z :: zs, h => .cons (dq_pair2 (h z List.mem_cons_self)) (dq_zs fun y hy => h y (List.mem_cons_of_mem _ hy))
theorem str_at {ns : List Str} {i : Int} (h0 : 0 ≤ i) (h1 : i < ns.length) : ∃ x : Str, x ∈ ns ∧ atI (ns.map V.str) i = some (.str x) := by
  obtain ⟨j, rfl⟩ : ∃ j : Nat, i = (j : Int) := ⟨i.toNat, by omega⟩
  have hj : j < ns.length := by omega
  exact ⟨ns[j], List.getElem_mem hj, atI_nat (by rw [List.getElem?_map, List.getElem?_eq_getElem hj]; rfl)⟩
section
variable {P : Program} {w : World} {K : PySem.W.Frag} {mg : Str → Option Value} {base : Heap}
end
end My

namespace My
open PySem PySem.Spec PyProof.Rows L2
/-! ### displays, by what stays -/
section
variable {X : Cx} {es : List Expr} {t : TA} {pos : Pos}
theorem paMono (h : PA X es t) : PA X es (fun σ H R => ∃ S : List V → Hp → Prop, t σ H S ∧ ∀ vs H1, S vs H1 → R vs H1) :=
  ⟨fun pos pins s σ H Q I ⟨S, h1, h2⟩ => thn (h.run pos pins s σ H S I h1) fun us s1 ⟨vs, H1, I1, r, q⟩ => ⟨vs, H1, I1, r, h2 _ _ q⟩⟩
def tTupS (t : TA) : TE := fun σ H Q => t σ H fun vs H1 => vs.length ≤ sizeLine ∧ ∀ q H2, Same H1 H2 → H2 q = some (.tup vs) → Q (.ref q) H2
def tLstS (t : TA) : TE := fun σ H Q => t σ H fun vs H1 => vs.length ≤ sizeLine ∧ ∀ q H2, Same H1 H2 → H1 q = none → H2 q = some (.lst vs) → Q (.ref q) H2
theorem pe_tupS {x1} (h : PA X es t) : PE X (.Tuple es x1 pos) (tTupS t) := PE.imp (pe_tup (paMono h)) fun _ _ _ q => ⟨_, q, fun _ _ z => ⟨z.1, fun p np => z.2 p _ (Same.upd np) upd_same⟩⟩
theorem pe_lstS (h : PA X es t) : PE X (.List es pos) (tLstS t) := PE.imp (pe_lst (paMono h)) fun _ _ _ q => ⟨_, q, fun _ _ z => ⟨z.1, fun p np => z.2 p _ (Same.upd np) np upd_same⟩⟩
end
end My

namespace My
open PySem PySem.Spec PyProof.Rows L2
/-- a list of pairs -/
structure PL (b : Int) (ns : List Str) (H : Hp) (a : Addr) : Prop where
  ex : ∃ zs : List (Addr × Int × Str), H a = some (.lst (zs.map fun z => .ref z.1)) ∧ (∀ z ∈ zs, H z.1 = some (.tup (pv2 z.2)) ∧ InB b ns z.2) ∧ zs.length ≤ 12
theorem PL.same {b : Int} {ns : List Str} {H H' : Hp} {a : Addr} (h : PL b ns H a) (e : Same H H') : PL b ns H' a := by
  obtain ⟨zs, h1, h2, h3⟩ := h.ex
  exact ⟨zs, e _ _ h1, fun z hz => ⟨e _ _ (h2 z hz).1, (h2 z hz).2⟩, h3⟩
theorem PL.one {b : Int} {ns : List Str} {H : Hp} {a q : Addr} {x : Int × Str} (h : H a = some (.lst [.ref q])) (h1 : H q = some (.tup (pv2 x))) (i : InB b ns x) : PL b ns H a :=
  ⟨[(q, x)], h, fun z hz => by rw [List.mem_singleton.mp hz]; exact ⟨h1, i⟩, by show 1 ≤ 12; decide⟩
theorem PL.two {b : Int} {ns : List Str} {H : Hp} {a q r : Addr} {x y : Int × Str} (h : H a = some (.lst [.ref q, .ref r])) (h1 : H q = some (.tup (pv2 x))) (h2 : H r = some (.tup (pv2 y))) (i : InB b ns x) (j : InB b ns y) : PL b ns H a :=
  ⟨[(q, x), (r, y)], h, fun z hz => by
    rcases List.mem_cons.mp hz with rfl | hz
    · exact ⟨h1, i⟩
    · rw [List.mem_singleton.mp hz]; exact ⟨h2, j⟩, by show 2 ≤ 12; decide⟩
theorem adr_at {as : List Addr} {i : Int} (h0 : 0 ≤ i) (h1 : i < as.length) : ∃ x : Addr, x ∈ as ∧ atI (as.map V.ref) i = some (.ref x) := by
  obtain ⟨j, rfl⟩ : ∃ j : Nat, i = (j : Int) := ⟨i.toNat, by omega⟩
  have hj : j < as.length := by omega
  exact ⟨as[j], List.getElem_mem hj, atI_nat (by rw [List.getElem?_map, List.getElem?_eq_getElem hj]; rfl)⟩
theorem Mw.own {p r : Addr} {G H G1 H1 : Hp} {o : HO} (m : Mw p G H G1 H1) (h : H r = none) (n : G1 r = none) (hp : r ≠ p) : Mw p G H G1 (upd H1 r o) := by
  refine ⟨m.gg, fun c u hc => ?_, fun c u n1 hc => ?_, m.pl, by rw [upd_ne hp.symm]; exact m.pl', m.old⟩
  · rw [upd_ne (ne_of_none hc n)]; exact m.gh c u hc
  · rw [upd_ne (ne_of_none hc h)]; exact m.bt c u n1 hc
theorem Mw.stand {p r : Addr} {G H G1 H1 : Hp} {o : HO} (m : Mw p G H G1 H1) (h : H r = none) (e : H1 r = some o) : Mw p G H (upd G1 r o) H1 := by
  refine ⟨fun c u hc => ?_, fun c u hc => ?_, m.bt, m.pl, m.pl', fun c hc => ?_⟩
  · by_cases z : c = r
    · subst z
      rw [upd_same]
      have := m.gh c u (m.gg c u hc)
      rw [e] at this
      exact this
    · rw [upd_ne z]; exact m.gg c u hc
  · by_cases z : c = r
    · subst z
      rw [upd_same] at hc
      rw [e]; exact hc
    · rw [upd_ne z] at hc; exact m.gh c u hc
  · rw [upd_ne (fun z => hc.1 (by rw [z]; exact h)), m.old c hc]
/-- a book -/
def bookD (b : Int) (ns : List Str) (rws : List (List (Int × Str))) : PyData := .tuple [.int b, .dict ((ns.zip rws).map fun z => (.str z.1, rowD z.2))]
structure BookOk (b : Int) (ns : List Str) (rws : List (List (Int × Str))) : Prop where
  b0 : 2 ≤ b
  b1 : b ≤ 10
  n0 : ns ≠ []
  n8 : ns.length ≤ 8
  nod : ns.Nodup
  ok : ∀ x ∈ ns, NameOk x
  len : rws.length = ns.length
  rows : ∀ row ∈ rws, RowIn b ns 12 row
def spBook (K : PySem.W.Frag) : Sp := fun vs H Q _ => ∃ (p pc ln : Addr) (b : Int) (ns : List Str) (most t : Nat) (G : Hp), vs = [.ref p, .int b, .ref ln, .int most] ∧ 2 ≤ b ∧ b ≤ 10 ∧ ns ≠ [] ∧ NamesOk ns ns.length ∧ ns.length ≤ 8 ∧ most ≤ 12 ∧ PenC H p pc t ∧ t + 400 < 2 ^ 29 ∧
  Same G H ∧ G p = none ∧ ln ≠ p ∧ H ln = some (.lst (ns.map V.str)) ∧
  ∀ (v : V) (rws : List (List (Int × Str))) (G' H' : Hp), Mw p G H G' H' → PenC H' p pc (t + 30 * ns.length) → Dq K G' v (bookD b ns rws) → BookOk b ns rws → Q v H'
structure TxB (mg : Str → Option Value) : Prop where
  len : mg "len" = none
  range : mg "range" = none
  tuple : mg "tuple" = none
  sorted : mg "sorted" = none
  dict : mg "dict" = none
section
variable {P : Program} {w : World} {K : PySem.W.Frag} {mg : Str → Option Value} {base : Heap}
theorem dqApp {G : Hp} : ∀ {vs us : List V} {ds es : List PyData}, DqAll K G vs ds → DqAll K G us es → DqAll K G (vs ++ us) (ds ++ es)
  | _, _, _, _, .nil, h => h
  | _, _, _, _, .cons a r, h => .cons a (dqApp r h)
theorem dqStrs {G : Hp} : ∀ ns : List Str, DqAll K G (ns.map V.str) (ns.map PyData.str)
  | [] => .nil
  | x :: ns => .cons (.str x) (dqStrs ns)
theorem dqKeys {G : Hp} {kvs : List (Key × V)} {ns : List Str} {rws : List (List (Int × Str))} (h : kvs.map (·.1) = ns.map Sum.inr) (hl : rws.length = ns.length) : DqAll K G (kvs.map fun kv => kV kv.1) (((ns.zip rws).map fun z => (PyData.str z.1, rowD z.2)).map (·.1)) := by
  have e1 : (kvs.map fun kv => kV kv.1) = ns.map V.str := by
    have := congrArg (List.map kV) h
    rw [List.map_map, List.map_map] at this
    exact this
  have e2 : ((ns.zip rws).map fun z => (PyData.str z.1, rowD z.2)).map (·.1) = ns.map PyData.str := by
    rw [List.map_map]
    have := congrArg (List.map PyData.str) (List.map_fst_zip (l₁ := ns) (l₂ := rws) (by omega))
    rw [List.map_map] at this
    exact this
  rw [e1, e2]
  exact dqStrs ns
theorem zipVals {ns : List Str} {rws : List (List (Int × Str))} (hl : rws.length = ns.length) : ((ns.zip rws).map fun z => (PyData.str z.1, rowD z.2)).map (·.2) = rws.map rowD := by
  rw [List.map_map]
  have := congrArg (List.map rowD) (List.map_snd_zip (l₁ := ns) (l₂ := rws) (by omega))
  rw [List.map_map] at this
  exact this
theorem put_new {kvs : List (Key × V)} {ks : List Str} {x : Str} {v : V} (h : kvs.map (·.1) = ks.map Sum.inr) (n : x ∉ ks) : putK kvs (Sum.inr x) v = kvs ++ [(Sum.inr x, v)] := by
  unfold putK
  rw [if_neg]
  intro z
  obtain ⟨kv, h1, h2⟩ := List.any_eq_true.mp z
  have h3 : kv.1 = Sum.inr x := of_decide_eq_true h2
  have h4 : kv.1 ∈ ks.map Sum.inr := by rw [← h]; exact List.mem_map.mpr ⟨kv, h1, rfl⟩
  obtain ⟨y, hy, e⟩ := List.mem_map.mp h4
  rw [h3] at e
  cases e
  exact n hy
theorem take_new {ns : List Str} (h : ns.Nodup) {i : Nat} {x : Str} (hx : ns[i]? = some x) : x ∉ ns.take i := by
  intro z
  obtain ⟨j, hj⟩ := List.mem_iff_getElem?.mp z
  rw [List.getElem?_take] at hj
  by_cases c : j < i
  · rw [if_pos c] at hj
    have hi : i < ns.length := (List.getElem?_eq_some_iff.mp hx).1
    have := (List.getElem?_inj (by omega) h).mp (hj.trans hx.symm)
    omega
  · rw [if_neg c] at hj; cases hj
theorem ne_tl {H : Hp} {a c : Addr} {xs ys : List V} (h : H a = some (.tup xs)) (g : H c = some (.lst ys)) : a ≠ c := fun z => by rw [z, g] at h; cases h
end
end My

namespace My
open PySem PySem.Spec PyProof.Rows L2
/-! ### the text of a book -/
theorem lenap (a b : Str) : (a ++ b).length = a.length + b.length := Str.length_append a b
theorem join_le (B : Nat) : ∀ ts : List Str, (∀ t ∈ ts, t.length ≤ B) → (Str.join ", " ts).length ≤ ts.length * (B + 2)
  | [], _ => by show (0 : Nat) ≤ _; exact Nat.zero_le _
  | [x], h => by
    show x.length ≤ _
    have := h x List.mem_cons_self
    rw [List.length_singleton]; omega
  | x :: y :: r, h => by
    have ih := join_le B (y :: r) fun t ht => h t (List.mem_cons_of_mem _ ht)
    show (x ++ ((", " : String) : Str) ++ Str.join ", " (y :: r)).length ≤ _
    have e : (((", " : String) : Str)).length = 2 := by decide
    have hx := h x List.mem_cons_self
    rw [lenap, lenap, e, List.length_cons, Nat.add_mul]
    omega
theorem tupleText_le (B : Nat) (ts : List Str) (h : ∀ t ∈ ts, t.length ≤ B) : (tupleText ts).length ≤ ts.length * (B + 2) + 3 := by
  unfold tupleText
  have j := join_le B ts h
  have e1 : ((("(" : String) : Str)).length = 1 := by decide
  rw [lenap, lenap, e1]
  have e2 : (((if ts.length == 1 then ",)" else ")" : String) : Str)).length ≤ 2 := by
    cases ts.length == 1 <;> decide
  omega
theorem dictText_le (B : Nat) (ts : List Str) (h : ∀ t ∈ ts, t.length ≤ B) : (dictText ts).length ≤ ts.length * (B + 2) + 2 := by
  unfold dictText
  have j := join_le B ts h
  have e1 : ((("{" : String) : Str)).length = 1 := by decide
  have e2 : ((("}" : String) : Str)).length = 1 := by decide
  rw [lenap, lenap, e1, e2]
  omega
theorem shownAll_map : ∀ ds : List PyData, PyData.shownAll ds = ds.map PyData.shown
  | [] => rfl
  | d :: ds => by rw [List.map_cons, ← shownAll_map ds]; simp only [PyData.shownAll]
theorem shownKv_map : ∀ ds : List (PyData × PyData), PyData.shownKv ds = ds.map fun p => p.1.shown ++ ((": " : String) : Str) ++ p.2.shown
  | [] => rfl
  | (k, v) :: ds => by rw [List.map_cons, ← shownKv_map ds]; simp only [PyData.shownKv]
theorem showAll_of : ∀ ds : List PyData, (∀ d ∈ ds, d.showable = true) → PyData.showableAll ds = true
  | [], _ => rfl
  | d :: ds, h => by simp only [PyData.showableAll, h d List.mem_cons_self, showAll_of ds fun x hx => h x (List.mem_cons_of_mem _ hx), Bool.and_self]
theorem showKv_of : ∀ ds : List (PyData × PyData), (∀ d ∈ ds, d.1.showable = true ∧ d.2.showable = true) → PyData.showableKv ds = true
  | [], _ => rfl
  | (k, v) :: ds, h => by
    have := h (k, v) List.mem_cons_self
    simp only [PyData.showableKv, this.1, this.2, showKv_of ds fun x hx => h x (List.mem_cons_of_mem _ hx), Bool.and_self]
theorem depthAll_le (k : Nat) : ∀ ds : List PyData, (∀ d ∈ ds, d.depth ≤ k) → PyData.depthAll ds ≤ k
  | [], _ => Nat.zero_le _
  | d :: ds, h => by
    have h1 := h d List.mem_cons_self
    have h2 := depthAll_le k ds fun x hx => h x (List.mem_cons_of_mem _ hx)
    simp only [PyData.depthAll]; omega
theorem depthKv_le (k : Nat) : ∀ ds : List (PyData × PyData), (∀ d ∈ ds, d.1.depth ≤ k ∧ d.2.depth ≤ k) → PyData.depthKv ds ≤ k
  | [], _ => Nat.zero_le _
  | (a, b) :: ds, h => by
    have h1 := h (a, b) List.mem_cons_self
    have h2 := depthKv_le k ds fun x hx => h x (List.mem_cons_of_mem _ hx)
    simp only [PyData.depthKv]
    have h3 : a.depth ≤ k := h1.1
    have h4 : b.depth ≤ k := h1.2
    omega
theorem noListAll : ∀ ds : List PyData, (∀ d ∈ ds, hasList d = false) → hasListAll ds = false
  | [], _ => by simp only [hasListAll]
  | d :: ds, h => by simp only [hasListAll, h d List.mem_cons_self, noListAll ds fun x hx => h x (List.mem_cons_of_mem _ hx), Bool.or_self]
theorem noListKv : ∀ ds : List (PyData × PyData), (∀ d ∈ ds, hasList d.1 = false ∧ hasList d.2 = false) → hasListKv ds = false
  | [], _ => by simp only [hasListKv]
  | (k, v) :: ds, h => by
    have := h (k, v) List.mem_cons_self
    simp only [hasListKv, this.1, this.2, noListKv ds fun x hx => h x (List.mem_cons_of_mem _ hx), Bool.or_self]
structure Shw (B k : Nat) (d : PyData) : Prop where
  sh : d.showable = true
  ln : d.shown.length ≤ B
  dp : d.depth ≤ k
  nl : hasList d = false
theorem shw_int {i : Int} (h0 : 0 ≤ i) (h1 : i ≤ 10) : Shw 1921 0 (.int i) := by
  have hl : i.natAbs.log2 < 1920 := Nat.lt_trans (PySem.Flt.log2_lt_of (k := 1900) (by decide) (Nat.lt_of_le_of_lt (show i.natAbs ≤ 10 by omega) (by decide))) (by decide)
  refine ⟨?_, int_text_len_1921 hl, by simp only [PyData.depth]; omega, by simp only [hasList]⟩
  simp only [PyData.showable]; exact decide_eq_true hl
theorem shw_str {x : Str} (h : NameOk x) : Shw 82 0 (.str x) := by
  refine ⟨by simp only [PyData.showable], ?_, by simp only [PyData.depth]; omega, by simp only [hasList]⟩
  have := PySem.StrLaws.reprText_len x fun c hc => by have := h.lets c hc; omega
  have h8 := h.hi
  show (reprText x).length ≤ 82
  omega
theorem shw_tuple {B k n : Nat} {ds : List PyData} (h : ∀ d ∈ ds, Shw B k d) (hn : ds.length ≤ n) : Shw (n * (B + 2) + 3) (k + 1) (.tuple ds) := by
  refine ⟨by simp only [PyData.showable]; exact showAll_of ds fun d hd => (h d hd).sh, ?_, by simp only [PyData.depth]; have := depthAll_le k ds fun d hd => (h d hd).dp; omega, by simp only [hasList]; exact noListAll ds fun d hd => (h d hd).nl⟩
  simp only [PyData.shown]
  rw [shownAll_map]
  have := tupleText_le B (ds.map PyData.shown) fun t ht => by
    obtain ⟨d, hd, rfl⟩ := List.mem_map.mp ht
    exact (h d hd).ln
  rw [List.length_map] at this
  have := Nat.mul_le_mul_right (B + 2) hn
  omega
theorem Shw.up {B B' k k' : Nat} {d : PyData} (h : Shw B k d) (h1 : B ≤ B') (h2 : k ≤ k') : Shw B' k' d := ⟨h.sh, by have := h.ln; omega, by have := h.dp; omega, h.nl⟩
theorem shw_row {b : Int} {ns : List Str} {row : List (Int × Str)} {m : Nat} (hb : b ≤ 10) (hn : ∀ x ∈ ns, NameOk x) (h : RowIn b ns m row) (hm : m ≤ 12) : Shw 60000 2 (rowD row) := by
  unfold rowD
  refine (shw_tuple (B := 4000) (k := 1) (n := 12) (fun d hd => ?_) (by rw [List.length_map]; have := h.len; omega)).up (by decide) (by decide)
  obtain ⟨q, hq, rfl⟩ := List.mem_map.mp hd
  have i := h.mem q hq
  refine (shw_tuple (B := 1921) (k := 0) (n := 2) (fun d hd => ?_) (by simp)).up (by decide) (by decide)
  rcases List.mem_cons.mp hd with rfl | hd
  · exact shw_int i.1 (by have := i.2.1; omega)
  · rw [List.mem_singleton.mp hd]; exact (shw_str (hn _ i.2.2)).up (by decide) (by decide)
theorem shw_book {b : Int} {ns : List Str} {rws : List (List (Int × Str))} (B : BookOk b ns rws) : Shw 2000000 5 (bookD b ns rws) := by
  have key : ∀ d ∈ (ns.zip rws).map (fun z => (PyData.str z.1, rowD z.2)), Shw 82 0 d.1 ∧ Shw 60000 2 d.2 := fun d hd => by
    obtain ⟨z, hz, rfl⟩ := List.mem_map.mp hd
    obtain ⟨h1, h2⟩ := List.of_mem_zip hz
    exact ⟨shw_str (B.ok _ h1), shw_row B.b1 B.ok (B.rows _ h2) (by decide)⟩
  have dict : Shw 600000 3 (.dict ((ns.zip rws).map fun z => (PyData.str z.1, rowD z.2))) := by
    refine ⟨by simp only [PyData.showable]; exact showKv_of _ fun d hd => ⟨(key d hd).1.sh, (key d hd).2.sh⟩, ?_, ?_, by simp only [hasList]; exact noListKv _ fun d hd => ⟨(key d hd).1.nl, (key d hd).2.nl⟩⟩
    · simp only [PyData.shown]
      rw [shownKv_map]
      have := dictText_le 60100 (((ns.zip rws).map fun z => (PyData.str z.1, rowD z.2)).map fun p => p.1.shown ++ ((": " : String) : Str) ++ p.2.shown) fun t ht => by
        obtain ⟨d, hd, rfl⟩ := List.mem_map.mp ht
        have h1 := (key d hd).1.ln
        have h2 := (key d hd).2.ln
        have e : (((": " : String) : Str)).length = 2 := by decide
        rw [lenap, lenap, e]; omega
      have l8 : (((ns.zip rws).map fun z => (PyData.str z.1, rowD z.2)).map fun p => p.1.shown ++ ((": " : String) : Str) ++ p.2.shown).length ≤ 8 := by
        rw [List.length_map, List.length_map, List.length_zip]
        have := B.n8
        omega
      have := Nat.mul_le_mul_right (60100 + 2) l8
      omega
    · simp only [PyData.depth]
      have := depthKv_le 2 _ fun d hd => ⟨by have := (key d hd).1.dp; omega, (key d hd).2.dp⟩
      omega
  unfold bookD
  refine (shw_tuple (B := 600000) (k := 3) (n := 2) (fun d hd => ?_) (by simp)).up (by decide) (by decide)
  rcases List.mem_cons.mp hd with rfl | hd
  · exact (shw_int (by have := B.b0; omega) B.b1).up (by decide) (by decide)
  · rw [List.mem_singleton.mp hd]; exact dict
/-! ### what a standing book is -/
theorem keys_of {K : PySem.W.Frag} {G : Hp} : ∀ {kvs : List (Key × V)} {ns : List Str}, DqAll K G (kvs.map fun kv => kV kv.1) (ns.map PyData.str) → kvs.map (·.1) = ns.map Sum.inr
  | [], [], _ => rfl
  | [], _ :: _, h => by cases h
  | _ :: _, [], h => by cases h
  | (k, v) :: kvs, n :: ns, h => by
    cases h with
    | cons h1 h2 =>
      have e : k = Sum.inr n := by
        cases k with
        | inl i => exact nomatch h1
        | inr x => 
          have h1' : Dq K G (.str x) (.str n) := h1
          cases h1'
          rfl
      rw [List.map_cons, List.map_cons, keys_of h2, e]
end My

namespace My
open PySem PySem.Spec PyProof.Rows L2
/-! ### t * k, any k that is not below nought -/
theorem mul_same (l : Addr) (items : Array Value) (n : Nat) (dd : Option Addr) (sl : Array (Option Value)) (u : Tok) :
    Meets (Builtin.«tuple.__mul__» ⟨[.ref l, .int 1 u], []⟩) (fun _ R s => s.heap.get? l = some { cls := .type "tuple", dict := dd, data := .seq items n, slots := sl } ∧ R (.ok (.ret (Value.ref l))) s) :=
  .of_wp fun prog w A R s h => by
    obtain ⟨hp, g, d, tk, os⟩ := s
    obtain ⟨hl, h⟩ := h
    have f1 := AutoSeq1.idx_int
    have c1 : (items.isEmpty || (1 : Int) == 1) = true := by rw [Bool.or_comm]; rfl
    wp_walk using wpAny_loadPart' hl
    repeat (first
      | (refine wpAny_ite_true (decide_eq_true c1) ?_; wp_walk using wpAny_loadPart' hl)
      | (refine wpAny_ite_false (decide_eq_false (by decide)) ?_; wp_walk using wpAny_loadPart' hl))
    exact ⟨_, rfl, h⟩
theorem mul_none (l : Addr) (items : Array Value) (n : Nat) (dd : Option Addr) (sl : Array (Option Value)) (u : Tok) (c1 : (items.isEmpty || (0 : Int) == 1) = false) :
    Meets (Builtin.«tuple.__mul__» ⟨[.ref l, .int 0 u], []⟩) (fun _ R s => s.heap.get? l = some { cls := .type "tuple", dict := dd, data := .seq items n, slots := sl } ∧ R (.ok (.ret (Value.ref s.heap.objs.size))) { s with heap := s.heap.push { cls := Value.type "tuple", data := Data.seq #[] }, toks := s.toks }) :=
  .of_wp fun prog w A R s h => by
    obtain ⟨hp, g, d, tk, os⟩ := s
    obtain ⟨hl, h⟩ := h
    have f1 := AutoSeq1.idx_int
    have c2 : (decide ((0 : Int) ≤ 0) || items.isEmpty) = true := rfl
    wp_walk using wpAny_loadPart' hl
    repeat (first
      | (refine wpAny_ite_false (decide_eq_false (by rw [c1]; exact Bool.false_ne_true)) ?_; wp_walk using wpAny_loadPart' hl)
      | (refine wpAny_ite_true (decide_eq_true c2) ?_; wp_walk using wpAny_loadPart' hl)
      | (refine wpAny_ite_false (decide_eq_false (by decide)) ?_; wp_walk using wpAny_loadPart' hl))
    exact ⟨_, rfl, h⟩
def rMulT (K : PySem.W.Frag) : R2 := fun x y H Q => ∃ l k xs, x = .ref l ∧ y = .int k ∧ SqT K H l xs ∧ xs ≠ [] ∧ 0 ≤ k ∧ k ≤ 1000 ∧ xs.length ≤ 1000 ∧ (k = 1 → Q (.ref l) H) ∧ (k ≠ 1 → ∀ p, H p = none → Q (.ref p) (upd H p (.tup (List.replicate k.toNat xs).flatten)))
theorem op_mulT {X : Cx} : OpR X (binaryOp .Mult) (rMulT X.K) := by
  intro pins s σ H x y v u Q I rx ry h
  obtain ⟨l, k, xs, rfl, rfl, hT, hne, h0, h1, hz, q1, q2⟩ := h
  by_cases k2 : 2 ≤ k
  · exact op_repT pins s σ H _ _ v u Q I rx ry ⟨l, k, xs, rfl, rfl, hT, hne, k2, h1, hz, q2 (by omega)⟩
  cases rx
  obtain ⟨t, rfl⟩ := ry
  obtain ⟨its, r, ⟨⟨cls, dd, data, sl⟩, ho, hc, n, hd⟩, hs⟩ := I.tuple hT
  simp only at hc hd
  subst hc hd
  have hle : its.length = xs.length := r.length.symm
  have hi : its.toArray.isEmpty = false := by
    cases its with
    | nil => exact absurd (List.eq_nil_of_length_eq_zero hle.symm) hne
    | cons a b => rfl
  by_cases k1 : k = 1
  · subst k1
    exact wpAny_binaryOp_repeat_ref (T := "tuple") (U := "int") (by decide) ⟨_, ho, rfl⟩ (fun s' => typeIs_int s' 1 t) noFill_tuple_mul F.fills_int_mul F.slot_int_rmul repeat_tuple F.slot_int_index.lookup
      (call_meets F.slot_int_rmul (typeIs_int s 1 t) F.entry_int_rmul (F.args_int_rmul_2 _ _) (int_rmul_tuple 1 t l its.toArray n dd sl) ⟨ho, rfl, ⟨_, ho, rfl⟩, call_meets F.slot_tuple_mul ⟨_, ho, rfl⟩ F.entry_tuple_mul (F.args_tuple_mul_2 _ _) (mul_same l its.toArray n dd sl t) ⟨ho, .ref l, H, I, rfl, q1 rfl⟩⟩)
  · have k0 : k = 0 := by omega
    subst k0
    refine wpAny_binaryOp_repeat_ref (T := "tuple") (U := "int") (by decide) ⟨_, ho, rfl⟩ (fun s' => typeIs_int s' 0 t) noFill_tuple_mul F.fills_int_mul F.slot_int_rmul repeat_tuple F.slot_int_index.lookup
      (call_meets F.slot_int_rmul (typeIs_int s 0 t) F.entry_int_rmul (F.args_int_rmul_2 _ _) (int_rmul_tuple 0 t l its.toArray n dd sl) ⟨ho, rfl, ⟨_, ho, rfl⟩, call_meets F.slot_tuple_mul ⟨_, ho, rfl⟩ F.entry_tuple_mul (F.args_tuple_mul_2 _ _) (mul_none l its.toArray n dd sl t (by rw [hi]; rfl)) ⟨ho, ?_⟩⟩)
    refine ⟨.ref s.heap.objs.size, _, I.laid (t' := s.toks) (o := .tup []) (fun b ob q => Heap.get?_push_of_some _ q) (Nat.le_refl _) ?_, rfl, q2 (by decide) _ (I.hok.fresh (Nat.le_refl _))⟩
    exact ⟨by simp, [], .nil, IsTup.new _ _⟩
/-! ### rules by what stands still -/
theorem OpR.imp {X : Cx} {f : Value → Value → Sem Value} {r r' : R2} (h : OpR X f r) (i : ∀ x y H Q, r' x y H Q → r x y H Q) : OpR X f r' := fun pins s σ H x y v u Q I rx ry q => h pins s σ H x y v u Q I rx ry (i _ _ _ _ q)
theorem SlR.imp {X : Cx} {r r' : V → Option Int → Option Int → Hp → VK → Prop} (h : SlR X r) (i : ∀ x lo hi H Q, r' x lo hi H Q → r x lo hi H Q) : SlR X r' := fun pins s σ H x v vl vu lo hi sl Q I rx hs pl pu q => h pins s σ H x v vl vu lo hi sl Q I rx hs pl pu (i _ _ _ _ _ q)
def rMulG : R2 := fun x y H Q => ∃ (G : Hp) (l : Addr) (k : Int) (xs : List V), x = .ref l ∧ y = .int k ∧ Same G H ∧ G l = some (.tup xs) ∧ xs ≠ [] ∧ 0 ≤ k ∧ k ≤ 1000 ∧ xs.length ≤ 1000 ∧ ∀ (a : Addr) (G' H' : Hp), Nw G H G' H' → G' a = some (.tup (List.replicate k.toNat xs).flatten) → Q (.ref a) H'
theorem op_mulG {X : Cx} : OpR X (binaryOp .Mult) rMulG := OpR.imp op_mulT fun x y H Q ⟨G, l, k, xs, e1, e2, e, hl, hn, k0, k1, hz, q⟩ =>
  ⟨l, k, xs, e1, e2, SqT.of (e _ _ hl), hn, k0, k1, hz, fun z => q l G H (Nw.refl e) (by rw [z]; simpa using hl), fun _ p np => q p _ _ (Nw.mk1 e np _) upd_same⟩
def rCatG : R2 := fun x y H Q => ∃ (G : Hp) (a b : Addr) (xs ys : List V), x = .ref a ∧ y = .ref b ∧ Same G H ∧ G a = some (.tup xs) ∧ G b = some (.tup ys) ∧ xs.length + ys.length ≤ sizeLine ∧ ∀ (c : Addr) (G' H' : Hp), Nw G H G' H' → G' c = some (.tup (xs ++ ys)) → Q (.ref c) H'
theorem op_catG {X : Cx} : OpR X (binaryOp .Add) rCatG := OpR.imp op_catA fun x y H Q ⟨G, a, b, xs, ys, e1, e2, e, ha, hb, hz, q⟩ =>
  ⟨a, b, xs, ys, e1, e2, SqT.of (e _ _ ha), SqT.of (e _ _ hb), hz, fun z => q b G H (Nw.refl e) (by rw [z]; simpa using hb), fun _ z => q a G H (Nw.refl e) (by rw [z]; simpa using ha), fun _ _ p np => q p _ _ (Nw.mk1 e np _) upd_same⟩
def rSlG : V → Option Int → Option Int → Hp → VK → Prop := fun x lo hi H Q => ∃ (G : Hp) (a : Addr) (xs : List V), x = .ref a ∧ Same G H ∧ G a = some (.tup xs) ∧ ∀ (c : Addr) (G' H' : Hp), Nw G H G' H' → G' c = some (.tup (cutV xs lo hi)) → Q (.ref c) H'
theorem sl_tupG {X : Cx} : SlR X rSlG := SlR.imp sl_tupA fun x lo hi H Q ⟨G, a, xs, e1, e, ha, q⟩ =>
  ⟨a, xs, e1, SqT.of (e _ _ ha), fun z => q a G H (Nw.refl e) (by
    have : cutV xs lo hi = xs := by
      unfold cutV
      rw [z.1, z.2, List.drop_zero, Nat.sub_zero, List.take_length]
    rw [this]; exact ha), fun _ p np => q p _ _ (Nw.mk1 e np _) upd_same⟩
end My

set_option linter.all false
namespace My
open PySem PySem.Spec PyProof.Rows L2
/-! ### dicts with keys of any kind: entries known one by one -/
/-- an entry that holds a key -/
def EnK (w : World) (h : Heap) (k : NestedKey) (e : DictEntry) : Prop := NestedIs h k e.key ∧ e.hash = k.hash w ∧ k.depth ≤ 8
structure Ks (w : World) (h : Heap) (ks : List NestedKey) (es : Array DictEntry) : Prop where
  len : ks.length = es.size
  at' : ∀ (i : Nat) (e : DictEntry), es[i]? = some e → ∃ x, ks[i]? = some x ∧ EnK w h x e
  nod : ks.Nodup
theorem Ks.to {w : World} {h : Heap} {ks : List NestedKey} {es : Array DictEntry} (S : Ks w h ks es) {j : Nat} {k : NestedKey} (e : ks[j]? = some k) : ∃ en, es[j]? = some en ∧ EnK w h k en := by
  have hj : j < es.size := by rw [← S.len]; exact (List.getElem?_eq_some_iff.mp e).1
  obtain ⟨x, h1, h2⟩ := S.at' j es[j] (Array.getElem?_eq_getElem hj)
  rw [e] at h1
  cases h1
  exact ⟨_, Array.getElem?_eq_getElem hj, h2⟩
theorem Ks.one {w : World} {h : Heap} {ks : List NestedKey} {es : Array DictEntry} (S : Ks w h ks es) {i j : Nat} {k : NestedKey} (e : ks[i]? = some k) (f : ks[j]? = some k) : i = j :=
  (List.getElem?_inj (List.getElem?_eq_some_iff.mp e).1 S.nod).mp (e.trans f.symm)
theorem is_text {h : Heap} {k : NestedKey} {x : Str} {t : Tok} (r : NestedIs h k (.str x t)) : k = .text x := by cases r; rfl
section
variable {prog : Program} {w : World} {A : Around} {E : Value → Shared → Prop} {s : Shared}
def plc (es : Array DictEntry) (h : Int) : List Nat := placesWithHash es.size (fun i => es[i]?.map (·.hash)) h
theorem plc_mem {es : Array DictEntry} {h : Int} {i : Nat} : i ∈ plc es h ↔ ∃ e, es[i]? = some e ∧ e.hash = h := by
  unfold plc placesWithHash
  rw [List.mem_filter, List.mem_range]
  show _ ∧ (Option.map (fun (e : DictEntry) => e.hash) es[i]? == some h) = true ↔ _
  constructor
  · rintro ⟨h1, h2⟩
    refine ⟨es[i], Array.getElem?_eq_getElem h1, ?_⟩
    rw [Array.getElem?_eq_getElem h1] at h2
    simpa using h2
  · rintro ⟨e, h1, h2⟩
    refine ⟨(Array.getElem?_eq_some_iff.mp h1).1, ?_⟩
    rw [h1]; simp [h2]
theorem plc_nod (es : Array DictEntry) (h : Int) : (plc es h).Nodup := List.Pairwise.filter _ List.nodup_range
theorem mayTell_any {k : NestedKey} {u : Value} {l : List Value} {R : Bool → Shared → Prop} (hk : NestedIs s.heap k u) (h8 : k.depth ≤ 8) (hs : ∀ v ∈ l, ∃ x : NestedKey, NestedIs s.heap x v ∧ x.depth ≤ 8) (r : R false s) : wpAny (model prog w) A (tableMayTell u l) R E s := by
  have q8 : ∀ {x : NestedKey} {v : Value} {T : Bool → Shared → Prop}, NestedIs s.heap x v → x.depth ≤ 8 → T true s → wpAny (model prog w) A (eqIsQuiet 8 v) T E s := fun {x v T} a b c => quiet_key x v 8 s a b A E T c
  unfold tableMayTell
  split
  · exact wpAny_pure r
  · refine wpAny_bind (q8 hk h8 ?_)
    rw [if_neg (by simp)]
    refine wpAny_bind (wpAny_forIn_list _ (fun rest b s' => s' = s ∧ b = (none, ()) ∧ ∀ v ∈ rest, ∃ x : NestedKey, NestedIs s.heap x v ∧ x.depth ≤ 8) _ ?_ ?_ _ _ ⟨rfl, rfl, hs⟩)
    · rintro v rest b s' ⟨rfl, rfl, hv⟩
      obtain ⟨x, h1, h2⟩ := hv v List.mem_cons_self
      refine wpAny_bind (q8 h1 h2 ?_)
      rw [if_neg (by simp)]
      exact wpAny_pure ⟨rfl, rfl, fun z hz => hv z (List.mem_cons_of_mem _ hz)⟩
    · rintro b s' ⟨rfl, rfl, _⟩
      exact wpAny_pure r
theorem dictFind_any {d : Addr} {o : Obj} {es : Array DictEntry} {ep : Nat} {ks : List NestedKey} {k : NestedKey} {u : Value} {Q : Option Nat → Shared → Prop} (hu : A.units + 8 < cLine) (hk : NestedIs s.heap k u) (h8 : k.depth ≤ 8)
    (ho : s.heap.get? d = some o) (hd : o.data = .dict es ep) (S : Ks w s.heap ks es) (q0 : k ∉ ks → Q none s) (q1 : ∀ j, ks[j]? = some k → Q (some j) s) :
    wpAny (model prog w) A (dictFind d u (k.hash w)) Q E s := by
  have eqs : ∀ {x : NestedKey} {e : DictEntry} {R : Bool → Shared → Prop}, EnK w s.heap x e → R (decide (x = k)) s → wpAny (model prog w) A (eqBool e.key u) R E s := fun {x e R} hx r =>
    eqAt_key x k A s _ _ hx.1 hk (by have := hx.2.2; omega) _ _ _ _ (by rw [← NestedKey.decide_eq]; exact r)
  unfold dictFind
  try with_reducible refine wpAny_holding ?_
  refine wpAny_bind (wpAny_dictEntries ho hd ?_)
  dsimp only
  -- the walk over places
  have walkP : wpAny (model prog w) A (dictWalkPlain d u (k.hash w) es (plc es (k.hash w))) Q E s := by
    unfold dictWalkPlain
    refine wpAny_bind ?_
    refine wpAny_forIn_list _ (fun rest b s' => s' = s ∧ b = (none, ()) ∧ (∀ i ∈ rest, i ∈ plc es (k.hash w)) ∧ ∀ j, ks[j]? = some k → j ∈ rest) _ ?_ ?_ _ _ ⟨rfl, rfl, fun _ h => h, fun j hj => ?_⟩
    · rintro x rest b s' ⟨rfl, rfl, hin, hall⟩
      obtain ⟨e, he, hh⟩ := plc_mem.mp (hin x List.mem_cons_self)
      obtain ⟨y, hy, ey⟩ := S.at' x e he
      have hin' : ∀ i ∈ rest, i ∈ plc es (k.hash w) := fun i hi => hin i (List.mem_cons_of_mem _ hi)
      rw [he]
      dsimp only
      rw [if_pos (by rw [hh]; exact beq_self_eq_true _)]
      refine wpAny_bind (wpAny_dictEpoch ho hd (wpAny_bind (eqs ey (wpAny_bind (wpAny_dictEpoch ho hd ?_)))))
      rw [if_neg (by simp)]
      by_cases c : y = k
      · rw [decide_eq_true c]
        rw [c] at hy
        exact wpAny_bind (wpAny_rule (wpAny_pure (wpAny_pure (q1 x hy))))
      · rw [decide_eq_false c]
        refine wpAny_bind (wpAny_rule (wpAny_pure ⟨rfl, rfl, hin', fun j hj => ?_⟩))
        rcases List.mem_cons.mp (hall j hj) with z | z
        · rw [z, hy] at hj
          exact absurd (Option.some.inj hj) c
        · exact z
    · rintro b s' ⟨rfl, rfl, _, hall⟩
      refine wpAny_pure (q0 fun hm => ?_)
      obtain ⟨j, hj⟩ := List.mem_iff_getElem?.mp hm
      exact nomatch hall j hj
    · obtain ⟨en, h1, h2⟩ := S.to hj
      exact plc_mem.mpr ⟨en, h1, h2.2.1⟩
  have sub : ∀ v ∈ (plc es (k.hash w)).filterMap (fun i => es[i]?.map (·.key)), ∃ x, NestedIs s.heap x v ∧ x.depth ≤ 8 := fun v hv => by
    obtain ⟨i, _, hi⟩ := List.mem_filterMap.mp hv
    cases he : es[i]? with
    | none => rw [he] at hi; cases hi
    | some e =>
      rw [he] at hi
      cases hi
      obtain ⟨y, _, ey⟩ := S.at' i e he
      exact ⟨y, ey.1, ey.2.2⟩
  have notold : ∀ a, u = .ref a → ¬ (es.any fun e => e.key == Value.ref a && e.hash != k.hash w) = true := by
    intro a ea c
    rw [← Array.any_toList] at c
    obtain ⟨e, he, hc⟩ := List.any_eq_true.mp c
    obtain ⟨i, hi⟩ := List.mem_iff_getElem?.mp he
    obtain ⟨y, _, ey⟩ := S.at' i e (by rw [← hi, Array.getElem?_toList])
    simp only [Bool.and_eq_true, beq_iff_eq, bne_iff_ne, ne_eq] at hc
    have r := ey.1
    rw [hc.1, ← ea] at r
    rw [NestedIs.inj _ _ _ r hk] at ey
    exact hc.2 ey.2.1
  have inv0 : s = s ∧ (plc es (k.hash w)).Nodup ∧ (∀ i ∈ plc es (k.hash w), i ∈ plc es (k.hash w)) ∧ ∃ hit : Option Nat, ((none : Option (Option Nat)), (none : Option Nat)) = (none, hit) ∧ ((hit = none ∧ ∀ j, ks[j]? = some k → j ∈ plc es (k.hash w)) ∨ ∃ j, hit = some j ∧ ks[j]? = some k ∧ j ∉ plc es (k.hash w)) := by
    refine ⟨rfl, plc_nod _ _, fun _ h => h, none, rfl, .inl ⟨rfl, fun j hj => ?_⟩⟩
    obtain ⟨en, h1, h2⟩ := S.to hj
    exact plc_mem.mpr ⟨en, h1, h2.2.1⟩
  have text : ∀ (x : Str) (t : Tok), u = .str x t → wpAny (model prog w) A (foundByValue d u es x) Q E s := by
    intro x t eu
    have kx : k = .text x := is_text (by rw [← eu]; exact hk)
    unfold foundByValue
    have key : ∀ (i : Nat) (e : DictEntry), es[i]? = some e → (e.key.isStr x = true ↔ ks[i]? = some k) := by
      intro i e he
      obtain ⟨y, hy, ey⟩ := S.at' i e he
      constructor
      · intro c
        have r := ey.1
        cases hz : e.key with
        | str z t2 =>
          rw [hz] at r c
          have zx : z = x := by simpa [Value.isStr] using c
          rw [hy, is_text r, kx, zx]
        | _ => rw [hz] at c; simp [Value.isStr] at c
      · intro c
        rw [hy] at c
        cases c
        have r := ey.1
        rw [kx] at r
        cases hz : e.key with
        | str z t2 => rw [hz] at r; cases r; simp [Value.isStr]
        | _ => rw [hz] at r; cases r
    cases hf : es.findIdx? (fun e => e.key.isStr x) with
    | none =>
      refine wpAny_pure (q0 fun hm => ?_)
      obtain ⟨j, hj⟩ := List.mem_iff_getElem?.mp hm
      obtain ⟨en, h1, _⟩ := S.to hj
      have := Array.findIdx?_eq_none_iff.mp hf en (Array.mem_of_getElem? h1)
      rw [(key j en h1).mpr hj] at this
      cases this
    | some i =>
      obtain ⟨hi, h1, _⟩ := Array.findIdx?_eq_some_iff_getElem.mp hf
      have he : es[i]? = some es[i] := Array.getElem?_eq_getElem hi
      have hj := (key i _ he).mp h1
      obtain ⟨y, hy, ey⟩ := S.at' i _ he
      dsimp only
      rw [he]
      refine wpAny_bind (wpAny_dictEpoch ho hd (wpAny_bind (eqs ey (wpAny_bind (wpAny_dictEpoch ho hd ?_)))))
      rw [if_neg (by simp)]
      rw [hj] at hy
      rw [decide_eq_true (Option.some.inj hy).symm]
      exact wpAny_bind (wpAny_rule (wpAny_pure (q1 i hj)))
  have loop : ∀ (W : Nat → Option (Option Nat) × Option Nat → Sem (ForInStep (Option (Option Nat) × Option Nat))),
      (∀ x e y hit, es[x]? = some e → ks[x]? = some y → EnK w s.heap y e → e.hash = k.hash w → (y = k → hit = none) →
        ∀ R : ForInStep (Option (Option Nat) × Option Nat) → Shared → Prop, (y = k → ks[x]? = some k → Q (some x) s → R (.done (some (some x), hit)) s) → (y = k → R (.yield (none, some x)) s) → (y ≠ k → R (.yield (none, hit)) s) → wpAny (model prog w) A (W x (none, hit)) R E s) →
      wpAny (model prog w) A (forIn (plc es (k.hash w)) ((none : Option (Option Nat)), (none : Option Nat)) W) (fun b s' => s' = s ∧ ((∃ r, b = (some r, none) ∧ Q r s) ∨ ∃ r, b = (none, r) ∧ Q r s)) E s := by
    intro W hW
    refine wpAny_forIn_list _ (fun rest b s' => s' = s ∧ ((∃ j, b = (some (some j), none) ∧ Q (some j) s ∧ rest = []) ∨ (rest.Nodup ∧ (∀ i ∈ rest, i ∈ plc es (k.hash w)) ∧ ∃ hit : Option Nat, b = (none, hit) ∧ ((hit = none ∧ ∀ j, ks[j]? = some k → j ∈ rest) ∨ ∃ j, hit = some j ∧ ks[j]? = some k ∧ j ∉ rest)))) _ ?_ ?_ _ _ ⟨rfl, .inr inv0.2⟩
    · rintro x rest b s' ⟨rfl, ⟨j, _, _, z⟩ | ⟨hn, hin, hit, rfl, hH⟩⟩
      · cases z
      · obtain ⟨e, he, hh⟩ := plc_mem.mp (hin x List.mem_cons_self)
        obtain ⟨y, hy, ey⟩ := S.at' x e he
        obtain ⟨hnx, hn'⟩ := List.nodup_cons.mp hn
        have hin' : ∀ i ∈ rest, i ∈ plc es (k.hash w) := fun i hi => hin i (List.mem_cons_of_mem _ hi)
        have hnone : y = k → hit = none := fun c => by
          rcases hH with ⟨z, _⟩ | ⟨j, _, hj, nj⟩
          · exact z
          · rw [c] at hy
            exact absurd (by rw [S.one hj hy]; exact List.mem_cons_self) nj
        refine hW x e y hit he hy ey hh hnone _ (fun c hx q => ?_) (fun c => ?_) fun c => ?_
        · exact ⟨rfl, .inl ⟨_, by rw [hnone c], q⟩⟩
        · rw [c] at hy
          exact ⟨rfl, .inr ⟨hn', hin', some x, rfl, .inr ⟨x, rfl, hy, hnx⟩⟩⟩
        · refine ⟨rfl, .inr ⟨hn', hin', hit, rfl, ?_⟩⟩
          rcases hH with ⟨z, hall⟩ | ⟨j, z, hj, nj⟩
          · refine .inl ⟨z, fun j hj => ?_⟩
            rcases List.mem_cons.mp (hall j hj) with z | z
            · rw [z, hy] at hj
              exact absurd (Option.some.inj hj) c
            · exact z
          · exact .inr ⟨j, z, hj, fun h => nj (List.mem_cons_of_mem _ h)⟩
    · rintro b s' ⟨rfl, ⟨j, rfl, q, _⟩ | ⟨_, _, hit, rfl, hH⟩⟩
      · exact ⟨rfl, .inl ⟨_, rfl, q⟩⟩
      · refine ⟨rfl, .inr ⟨_, rfl, ?_⟩⟩
        rcases hH with ⟨rfl, hall⟩ | ⟨j, rfl, hj, _⟩
        · refine q0 fun hm => ?_
          obtain ⟨j, hj⟩ := List.mem_iff_getElem?.mp hm
          exact nomatch hall j hj
        · exact q1 j hj
  have tells : ∀ R : Bool → Shared → Prop, R false s → wpAny (model prog w) A (tableMayTell u ((plc es (k.hash w)).filterMap fun i => es[i]?.map (·.key))) R E s := fun R r => mayTell_any hk h8 sub r
  have body : ∀ (x : Nat) (e : DictEntry) (y : NestedKey) (hit : Option Nat) (R : ForInStep (Option (Option Nat) × Option Nat) → Shared → Prop), ks[x]? = some y → (y = k → hit = none) → (y = k → ks[x]? = some k → Q (some x) s → R (.done (some (some x), hit)) s) → (y = k → R (.yield (none, some x)) s) → (y ≠ k → R (.yield (none, hit)) s) → y = k ∧ hit = none ∧ Q (some x) s ∧ R (.done (some (some x), hit)) s ∧ R (.yield (none, some x)) s ∨ y ≠ k ∧ R (.yield (none, hit)) s := fun x e y hit R hy hn r1 r2 r3 => by
    by_cases c : y = k
    · have h1 : ks[x]? = some k := by rw [hy, c]
      exact .inl ⟨c, hn c, q1 x h1, r1 c h1 (q1 x h1), r2 c⟩
    · exact .inr ⟨c, r3 c⟩
  by_cases hex : (es.all fun e => isExactStrKey e.key) = true
  all_goals by_cases hall : (u :: (plc es (k.hash w)).filterMap (fun i => es[i]?.map (·.key))).all carriedByValue = true
  all_goals by_cases hone : (((plc es (k.hash w)).filterMap (fun i => es[i]?.map (·.key))) == [u]) = true
  all_goals unfold plc at hall hone walkP tells
  all_goals cases hk
  all_goals (try dsimp only)
  all_goals first | (rw [if_pos hex]; exact text _ _ rfl) | skip
  all_goals first | rw [if_neg hex] | skip
  all_goals first | (rw [if_pos hall]; exact walkP) | skip
  all_goals first | rw [if_neg hall] | skip
  all_goals first | rw [if_neg (notold _ rfl)] | skip
  all_goals first | (rw [if_pos hone]; refine wpAny_bind (wpAny_pure ?_)) | (rw [if_neg hone]; refine wpAny_bind (tells _ ?_))
  all_goals rw [if_neg (by simp)]
  all_goals refine wpAny_bind (wpAny_mono (loop _ ?_) (fun b s' hb => ?_) fun _ _ e => e)
  all_goals first | (rcases hb with ⟨rfl, ⟨r, rfl, q⟩ | ⟨r, rfl, q⟩⟩ <;> exact wpAny_pure q) | skip
  all_goals intro x e y hit he hy ey hh hn R r1 r2 r3
  all_goals rw [he]
  all_goals dsimp only
  all_goals rw [if_pos (by rw [hh]; exact beq_self_eq_true _)]
  all_goals refine wpAny_bind (wpAny_dictEpoch ho hd (wpAny_bind (eqs ey (wpAny_bind (wpAny_dictEpoch ho hd ?_)))))
  all_goals rw [if_neg (by simp)]
  all_goals rcases body x e y hit R hy hn r1 r2 r3 with ⟨c, h0, _, d1, d2⟩ | ⟨c, d3⟩
  all_goals first | (rw [decide_eq_true c]; subst h0; rw [if_pos rfl, if_neg (by simp)]; exact wpAny_bind (wpAny_rule (wpAny_ite_split (fun _ => wpAny_pure d1) fun _ => wpAny_pure d2))) | (rw [decide_eq_false c, if_neg (by simp)]; refine wpAny_bind (wpAny_rule ?_); rw [if_neg (by simp)]; exact wpAny_pure d3)
/-- the key looked up: its place, or none -/
theorem dictGet_any {d : Addr} {o : Obj} {es : Array DictEntry} {ep : Nat} {ks : List NestedKey} {k : NestedKey} {u : Value} {Q : Option Value → Shared → Prop} (hu : A.units + 8 < cLine) (hk : NestedIs s.heap k u) (h8 : k.depth ≤ 8)
    (ho : s.heap.get? d = some o) (hd : o.data = .dict es ep) (S : Ks w s.heap ks es) (q0 : k ∉ ks → Q none { s with toks := s.toks + k.draws })
    (q1 : ∀ (j : Nat) (e : DictEntry), ks[j]? = some k → es[j]? = some e → Q (some e.val) { s with toks := s.toks + k.draws }) : wpAny (model prog w) A (dictGet d u) Q E s := by
  unfold dictGet
  try with_reducible refine wpAny_holding ?_
  refine wpAny_bind (pyHash_key k u A s _ hk (by omega) (wpAny_bind (dictFind_any (s := { s with toks := s.toks + k.draws }) hu hk h8 ho hd S (fun n => wpAny_pure (q0 n)) fun j hj => ?_)))
  obtain ⟨e, he, _⟩ := S.to hj
  refine wpAny_bind (wpAny_dictEntries (s := { s with toks := s.toks + k.draws }) ho hd ?_)
  rw [he]
  exact wpAny_pure (q1 j e hj he)
theorem nested_but {h h' : Heap} {d : Addr} {o : Obj} {es : Array DictEntry} {ep : Nat} {k : NestedKey} {v : Value} (x : NestedIs h k v) (ho : h.get? d = some o) (hd : o.data = .dict es ep) (sb : Heap.SameBut d h h') : NestedIs h' k v :=
  NestedIs.at (fun b ob vs n hb hc => by
    refine (sb.2 b fun z => ?_).trans hb
    rw [z, ho] at hb
    cases hb
    rw [hd] at hc
    cases hc) k v x
theorem Ks.but {h h' : Heap} {d : Addr} {o : Obj} {es es' : Array DictEntry} {ep : Nat} {ks : List NestedKey} (S : Ks w h ks es') (ho : h.get? d = some o) (hd : o.data = .dict es ep) (sb : Heap.SameBut d h h') : Ks w h' ks es' :=
  ⟨S.len, fun i e he => let ⟨x, h1, h2, h3⟩ := S.at' i e he; ⟨x, h1, nested_but h2 ho hd sb, h3⟩, S.nod⟩
/-- a key is put in: its value exchanged, or a new entry at the end -/
theorem dictSet_any {d : Addr} {o : Obj} {es : Array DictEntry} {ep : Nat} {ks : List NestedKey} {k : NestedKey} {u v : Value} {Q : Unit → Shared → Prop} (hu : A.units + 8 < cLine) (hk : NestedIs s.heap k u) (h8 : k.depth ≤ 8)
    (ho : s.heap.get? d = some o) (hx : o.ExactDict) (hd : o.data = .dict es ep) (S : Ks w s.heap ks es) (hz : es.size ≤ sizeLine)
    (q : ∀ (h' : Heap) (es' : Array DictEntry) (ep' : Nat), h'.DictRaw d es' ep' → Heap.SameBut d s.heap h' →
      ((k ∉ ks ∧ es' = es.push ⟨k.hash w, u, v⟩) ∨ ∃ (j : Nat) (e : DictEntry), ks[j]? = some k ∧ es[j]? = some e ∧ es' = es.modify j (fun e => { e with val := v })) → Q () { s with heap := h', toks := s.toks + k.draws }) :
    wpAny (model prog w) A (dictSet d u v) Q E s := by
  unfold dictSet
  try with_reducible refine wpAny_holding ?_
  refine wpAny_bind (pyHash_key k u A s _ hk (by omega) ?_)
  unfold dictSetHashed
  try with_reducible refine wpAny_holding ?_
  refine wpAny_bind (dictFind_any (s := { s with toks := s.toks + k.draws }) hu hk h8 ho hd S (fun n => ?_) fun j hj => ?_)
  · exact wpAny_bind (wpAny_rule (wpAny_updateDictKeys (hz := hz) (s := { s with toks := s.toks + k.draws }) ho hd
      (q _ _ (ep + 1) ⟨_, Heap.get?_update_self _ ho (Obj.isFreed_of_dict (Obj.data_mapDictKeys hd _)), hx.mapDictKeys _, Obj.data_mapDictKeys hd _⟩ (Heap.SameBut.update ..) (.inl ⟨n, rfl⟩))))
  · obtain ⟨e, he, _⟩ := S.to hj
    exact wpAny_bind (wpAny_rule (wpAny_bind (wpAny_updateDict (s := { s with toks := s.toks + k.draws }) ho hd (wpAny_point
      (q _ _ ep ⟨_, Heap.get?_update_self _ ho (Obj.isFreed_of_dict (Obj.data_mapDict hd _)), hx.mapDict _, Obj.data_mapDict hd _⟩ (Heap.SameBut.update ..) (.inr ⟨j, e, hj, he, rfl⟩))))))
theorem contains_any {d : Addr} {o : Obj} {es : Array DictEntry} {ep : Nat} {ks : List NestedKey} {k : NestedKey} {u : Value} {Q : Bool → Shared → Prop} (hu : A.units + 9 < cLine) (hk : NestedIs s.heap k u) (h8 : k.depth ≤ 8) (hm : (d == sysModules) = false)
    (ho : s.heap.get? d = some o) (hx : o.ExactDict) (hd : o.data = .dict es ep) (S : Ks w s.heap ks es) (q : Q (decide (k ∈ ks)) { s with toks := s.toks + k.draws }) : wpAny (model prog w) A (contains (.ref d) u) Q E s := by
  have ty : s.TypeIs (.ref d) "dict" := ⟨o, ho, hx.1⟩
  refine wpAny_contains_slot ty F.slot_dict_contains ?_
  refine call_meetsIn F.slot_dict_contains ty F.entry_dict_contains (F.args_dict_contains_2 _ _) (S := fun A' R s' => A' = A ∧ s' = s ∧ R (.ok (.ret (.bool (decide (k ∈ ks))))) { s with toks := s.toks + k.draws }) (fun A' R s' hS => ?_) ⟨rfl, rfl, wpAny_truthy_bool q⟩
  obtain ⟨rfl, rfl, hq⟩ := hS
  show wpAny _ _ (dictGet d u >>= _) _ _ _
  refine wpAny_bind (dictGet_any (by show A'.units + 1 + 8 < cLine; omega) hk h8 ho hd S (fun n => ?_) fun j e hj he => ?_)
  · rw [decide_eq_false n] at hq
    show wpAny _ _ (Builtin.Dict.pendingKey? d u >>= _) _ _ _
    exact wpAny_bind (wpAny_pendingKey_other hm (wpAny_pure hq))
  · rw [decide_eq_true (List.mem_of_getElem? hj)] at hq
    exact wpAny_pure hq
theorem setItem_any {d : Addr} {o : Obj} {es : Array DictEntry} {ep : Nat} {ks : List NestedKey} {k : NestedKey} {u v : Value} {Q : Unit → Shared → Prop} (hu : A.units + 9 < cLine) (hk : NestedIs s.heap k u) (h8 : k.depth ≤ 8)
    (ho : s.heap.get? d = some o) (hx : o.ExactDict) (hd : o.data = .dict es ep) (S : Ks w s.heap ks es) (hz : es.size ≤ sizeLine)
    (q : ∀ (h' : Heap) (es' : Array DictEntry) (ep' : Nat), h'.DictRaw d es' ep' → Heap.SameBut d s.heap h' →
      ((k ∉ ks ∧ es' = es.push ⟨k.hash w, u, v⟩) ∨ ∃ (j : Nat) (e : DictEntry), ks[j]? = some k ∧ es[j]? = some e ∧ es' = es.modify j (fun e => { e with val := v })) → Q () { s with heap := h', toks := s.toks + k.draws }) :
    wpAny (model prog w) A (setItem (.ref d) u v) Q E s := by
  have ty : s.TypeIs (.ref d) "dict" := ⟨o, ho, hx.1⟩
  unfold setItem
  try with_reducible refine wpAny_holding ?_
  refine wpAny_bind (wpAny_sequenceKey ty (by decide) (wpAny_bind (wpAny_callSpecial?_slot (name := Str.ofString "__setitem__") ty slot_dict_setitem (wpAny_call_entry slot_dict_setitem ty entry_dict_setitem ?_ (args_dict_setitem _ _ _)))))
  show wpAny _ _ (Builtin.Dict.notOrdered "__setitem__" _ >>= _) _ _ s
  refine wpAny_bind (wpAny_notOrdered_dict ty ?_)
  show wpAny _ _ (dictSet d u v >>= _) _ _ s
  exact wpAny_bind (dictSet_any (by show A.units + 1 + 8 < cLine; omega) hk h8 ho hx hd S hz fun h' es' ep' a b c => wpAny_pure ⟨.none, rfl, wpAny_pure (q h' es' ep' a b c)⟩)
end
end My

set_option linter.all false
namespace My
open PySem PySem.Spec PyProof.Rows L2
/-! ### keys and dicts over the abstract heap -/
mutual
inductive KeyV (H : Hp) : NestedKey → V → Prop
  | non : KeyV H .none .non
  | bl (b : Bool) : KeyV H (.num (if b = true then 1 else 0)) (.bl b)
  | int (i : Int) : KeyV H (.num i) (.int i)
  | str (x : Str) : KeyV H (.text x) (.str x)
  | tup {a : Addr} {xs : List V} {ks : List NestedKey} : H a = some (.tup xs) → KeyVs H ks xs → KeyV H (.tup ks) (.ref a)
inductive KeyVs (H : Hp) : List NestedKey → List V → Prop
  | nil : KeyVs H [] []
  | cons {k : NestedKey} {v : V} {ks : List NestedKey} {vs : List V} : KeyV H k v → KeyVs H ks vs → KeyVs H (k :: ks) (v :: vs)
end
mutual
theorem KeyV.up {H H' : Hp} (e : ∀ b xs, H b = some (.tup xs) → H' b = some (.tup xs)) : ∀ {k : NestedKey} {v : V}, KeyV H k v → KeyV H' k v
  | _, _, .non => .non
  | _, _, .bl b => .bl b
  | _, _, .int i => .int i
  | _, _, .str x => .str x
  | _, _, .tup h t => .tup (e _ _ h) (KeyVs.up e t)
theorem KeyVs.up {H H' : Hp} (e : ∀ b xs, H b = some (.tup xs) → H' b = some (.tup xs)) : ∀ {k : List NestedKey} {v : List V}, KeyVs H k v → KeyVs H' k v
  | _, _, .nil => .nil
  | _, _, .cons h t => .cons (KeyV.up e h) (KeyVs.up e t)
end
theorem KeyV.mono {H H' : Hp} (e : Same H H') {k : NestedKey} {v : V} (h : KeyV H k v) : KeyV H' k v := h.up fun b xs z => e b _ z
section
variable {X : Cx} {pins : List (Addr × Obj)} {σ : L2.St} {H : Hp} {s : Shared}
mutual
theorem KeyV.is (I : Inv X pins σ H s) : ∀ {k : NestedKey} {v : V} {u : Value}, KeyV H k v → RelV v u → NestedIs s.heap k u
  | _, _, _, .non, r => by cases (show _ = Value.none from r); exact .none
  | _, _, _, .bl b, r => by cases (show _ = Value.bool b from r); exact .bool rfl
  | _, _, _, .int i, r => by obtain ⟨t, rfl⟩ := (show ∃ t, _ = Value.int i t from r); exact .int _ _
  | _, _, _, .str x, r => by obtain ⟨t, rfl⟩ := (show ∃ t, _ = Value.str x t from r); exact .text _ _
  | _, _, u, @KeyV.tup _ a xs ks h t, r => by
    cases (show u = Value.ref a from r)
    obtain ⟨_, its, rv, o, ho, hc, n, hd⟩ := I.hok _ _ h
    exact .tup ho hc hd (KeyVs.is I t rv)
theorem KeyVs.is (I : Inv X pins σ H s) : ∀ {ks : List NestedKey} {vs : List V} {us : List Value}, KeyVs H ks vs → Vals vs us → NestedAll s.heap ks us
  | _, _, _, .nil, r => by cases r; exact .nil
  | _, _, _, .cons h t, r => by
    cases r with
    | cons r1 r2 => exact .cons (KeyV.is I h r1) (KeyVs.is I t r2)
end
end
/-- an entry: its key, the key as it stands, its value -/
abbrev Kvv := NestedKey × V × V
def EnV (w : World) (H : Hp) (x : Kvv) (e : DictEntry) : Prop := KeyV H x.1 x.2.1 ∧ RelV x.2.1 e.key ∧ e.hash = x.1.hash w ∧ x.1.depth ≤ 8 ∧ RelV x.2.2 e.val
structure Ents (w : World) (H : Hp) (kvs : List Kvv) (es : Array DictEntry) : Prop where
  prd : Paired (EnV w H) kvs es.toList
  nod : (kvs.map (·.1)).Nodup
  lt : kvs.length ≤ sizeLine
theorem Ents.up {w : World} {H H' : Hp} {kvs : List Kvv} {es : Array DictEntry} (h : Ents w H kvs es) (e : ∀ b xs, H b = some (.tup xs) → H' b = some (.tup xs)) : Ents w H' kvs es :=
  ⟨Paired.mapP h.prd fun a b x => ⟨x.1.up e, x.2⟩, h.nod, h.lt⟩
theorem Ents.len {w : World} {H : Hp} {kvs : List Kvv} {es : Array DictEntry} (h : Ents w H kvs es) : kvs.length = es.size := by
  have := Paired.length h.prd
  rw [Array.length_toList] at this
  exact this
theorem Ents.get {w : World} {H : Hp} {kvs : List Kvv} {es : Array DictEntry} (h : Ents w H kvs es) {i : Nat} {x : Kvv} (e : kvs[i]? = some x) : ∃ en, es[i]? = some en ∧ EnV w H x en := by
  obtain ⟨b, h1, h2⟩ := paired_get h.prd e
  exact ⟨b, by rw [← h1, Array.getElem?_toList], h2⟩
theorem Ents.back {w : World} {H : Hp} {kvs : List Kvv} {es : Array DictEntry} (h : Ents w H kvs es) {i : Nat} {en : DictEntry} (e : es[i]? = some en) : ∃ x, kvs[i]? = some x ∧ EnV w H x en := by
  have hi : i < kvs.length := by rw [h.len]; exact (Array.getElem?_eq_some_iff.mp e).1
  obtain ⟨b, h1, h2⟩ := h.get (List.getElem?_eq_getElem hi)
  rw [e] at h1
  cases h1
  exact ⟨_, List.getElem?_eq_getElem hi, h2⟩
def rawO (d : Addr) (es : Array DictEntry) (ep : Nat) : HO := .ext fun h => h.DictRaw d es ep ∧ (d == sysModules) = false
/-- a dict of one's own, to be changed -/
def DN (w : World) (H : Hp) (d : Addr) (kvs : List Kvv) : Prop := ∃ es ep, H d = some (rawO d es ep) ∧ Ents w H kvs es
def IsDU (d : Addr) (u : HO) : Prop := (∃ kvs, u = .dK kvs) ∨ ∃ es ep, u = rawO d es ep
/-- a dict that stands still -/
def DF (w : World) (H : Hp) (d : Addr) (kvs : List Kvv) : Prop := ∃ od u es ep, H d = some (.frz od u) ∧ od.ExactDict ∧ od.data = .dict es ep ∧ (d == sysModules) = false ∧ Ents w H kvs es ∧ IsDU d u
theorem DF.mono {w : World} {H H' : Hp} {d : Addr} {kvs : List Kvv} (h : DF w H d kvs) (e : Same H H') : DF w H' d kvs := by
  obtain ⟨od, u, es, ep, h1, h2, h3, h4, h5, h6⟩ := h
  exact ⟨od, u, es, ep, e _ _ h1, h2, h3, h4, h5.up (fun b xs z => e b _ z), h6⟩
/-- a dict that may be read: any of the three -/
def kN : Key → NestedKey
  | .inl i => .num i
  | .inr x => .text x
theorem kN_inj {a b : Key} (h : kN a = kN b) : a = b := by
  cases a <;> cases b <;> simp only [kN, NestedKey.num.injEq, NestedKey.text.injEq] at h
  · rw [h]
  · cases h
  · cases h
  · rw [h]
theorem kN_kv (H : Hp) (k : Key) : KeyV H (kN k) (kV k) := by cases k <;> constructor
theorem kN_hash (w : World) (k : Key) : (kN k).hash w = keyH w k := by cases k <;> (simp only [kN, NestedKey.hash]; rfl)
theorem kN_depth (k : Key) : (kN k).depth ≤ 8 := by cases k <;> (simp only [kN, NestedKey.depth]; omega)
def kvvs (kvs : List (Key × V)) : List Kvv := kvs.map fun kv => (kN kv.1, kV kv.1, kv.2)
section
variable {X : Cx} {pins : List (Addr × Obj)} {σ : L2.St} {H : Hp} {s : Shared}
theorem pairs_ents {P : Program} {w : World} {H : Hp} : ∀ {kvs : List (Key × V)} {vs : List (Key × Value)} {es : List DictEntry}, KV kvs vs → Pairs (mixKind P w) es vs → (∀ e ∈ es, ∃ k, keyIs k e.key = true ∧ e.hash = keyH w k) → Paired (EnV w H) (kvvs kvs) es
  | _, _, _, .nil, .nil, _ => .nil
  | (k, v) :: _, (k', v') :: _, e :: es, .cons ⟨h1, h2⟩ t, .cons g1 g2 g3, hh => by
    have e1 : k = k' := h1
    subst e1
    refine .cons ⟨kN_kv H k, relV_key (show keyIs k _ = true from g1), ?_, kN_depth k, ?_⟩ (pairs_ents t g3 fun x hx => hh x (List.mem_cons_of_mem _ hx))
    · obtain ⟨k2, q1, q2⟩ := hh e List.mem_cons_self
      have e2 : k = k2 := (mixKind P w).inj _ _ _ (show keyIs k _ = true from g1) q1
      rw [q2, e2, kN_hash]
    · have e2 : e.val = v' := g2
      rw [e2]; exact h2
theorem kvvs_nod {kvs : List (Key × V)} {vs : List (Key × Value)} (r : KV kvs vs) (n : (vs.map (·.1)).Nodup) : ((kvvs kvs).map (·.1)).Nodup := by
  have e1 : kvs.map (·.1) = vs.map (·.1) := by
    have : ∀ {kvs : List (Key × V)} {vs : List (Key × Value)}, KV kvs vs → kvs.map (·.1) = vs.map (·.1) := by
      intro kvs vs r
      unfold KV at r
      induction r with
      | nil => rfl
      | cons h _ ih => rw [List.map_cons, List.map_cons, ih, h.1]
    exact this r
  unfold kvvs
  rw [List.map_map]
  have e2 : kvs.map ((fun x : Kvv => x.1) ∘ fun kv => (kN kv.1, kV kv.1, kv.2)) = (kvs.map (·.1)).map kN := by rw [List.map_map]; rfl
  rw [e2, e1]
  exact List.Pairwise.map kN (fun a b h z => h (kN_inj z)) n
/-- a dict as the layer knows it, read entry by entry -/
theorem dk_raw {d : Addr} {kvs : List (Key × V)} (hok : HOk X.prog X.w H s.heap) (h : ObjOk X.prog X.w H s.heap d (.dK kvs)) : ∃ o es ep, s.heap.get? d = some o ∧ o.ExactDict ∧ o.data = .dict es ep ∧ (d == sysModules) = false ∧ ∀ H2, Ents X.w H2 (kvvs kvs) es := by
  obtain ⟨z, hs, vs, kv, o, es, ep, ho, hx, hd, hk, hp, hn⟩ := h
  refine ⟨o, es, ep, ho, hx, hd, hs, fun H2 => ⟨pairs_ents kv hp fun e he => ?_, kvvs_nod kv hn, by unfold kvvs; rw [List.length_map]; exact z⟩⟩
  exact hk e (Array.mem_toList_iff.mp he)
theorem DN.raw {d : Addr} {kvs : List Kvv} (hok : HOk X.prog X.w H s.heap) (h : DN X.w H d kvs) : ∃ o es ep, H d = some (rawO d es ep) ∧ s.heap.get? d = some o ∧ o.ExactDict ∧ o.data = .dict es ep ∧ (d == sysModules) = false ∧ Ents X.w H kvs es := by
  obtain ⟨es, ep, h1, h2⟩ := h
  obtain ⟨⟨⟨o, ho, hx, hd⟩, hm⟩, _⟩ := hok _ _ h1
  exact ⟨o, es, ep, h1, ho, hx, hd, hm, h2⟩
theorem DF.raw {d : Addr} {kvs : List Kvv} (hok : HOk X.prog X.w H s.heap) (h : DF X.w H d kvs) : ∃ od u es ep, H d = some (.frz od u) ∧ s.heap.get? d = some od ∧ od.ExactDict ∧ od.data = .dict es ep ∧ (d == sysModules) = false ∧ Ents X.w H kvs es := by
  obtain ⟨od, u, es, ep, h1, h2, h3, h4, h5, _⟩ := h
  exact ⟨od, u, es, ep, h1, (hok _ _ h1).1, h2, h3, h4, h5⟩
theorem Ents.ks {kvs : List Kvv} {es : Array DictEntry} (I : Inv X pins σ H s) (h : Ents X.w H kvs es) : Ks X.w s.heap (kvs.map (·.1)) es := by
  refine ⟨by rw [List.length_map]; exact h.len, fun i e he => ?_, h.nod⟩
  obtain ⟨x, h1, h2⟩ := h.back he
  exact ⟨x.1, by rw [List.getElem?_map, h1]; rfl, h2.1.is I h2.2.1, h2.2.2.1, h2.2.2.2.1⟩
theorem tup_upd {H : Hp} {d : Addr} {o : HO} {u : HO} (h : H d = some u) (n : ∀ xs, u ≠ .tup xs) : ∀ b xs, H b = some (.tup xs) → upd H d o b = some (.tup xs) := fun b xs e => by
  rw [upd_ne fun z => by rw [z, h] at e; cases e; exact n _ rfl]; exact e
/-! ### a dict is made to stand still -/
def FrzS (w : World) (H : Hp) (d : Addr) (Q : Hp → Prop) : Prop :=
  (∃ kvs, H d = some (.dK kvs) ∧ ∀ od, DF w (upd H d (.frz od (.dK kvs))) d (kvvs kvs) → Q (upd H d (.frz od (.dK kvs)))) ∨
  ∃ kvs es ep, H d = some (rawO d es ep) ∧ Ents w H kvs es ∧ ∀ od, DF w (upd H d (.frz od (rawO d es ep))) d kvs → Q (upd H d (.frz od (rawO d es ep)))
theorem FrzS.run {d : Addr} {Q : Hp → Prop} (I : Inv X pins σ H s) (h : FrzS X.w H d Q) : ∃ H', Inv X pins σ H' s ∧ Q H' := by
  rcases h with ⟨kvs, hd, q⟩ | ⟨kvs, es, ep, hd, he, q⟩
  · obtain ⟨od, J⟩ := I.lock hd trivial
    refine ⟨_, J, q od ?_⟩
    obtain ⟨g1, g2⟩ := J.hok d _ upd_same
    obtain ⟨o, es, ep, ho, hx, hdt, hm, hE⟩ := dk_raw J.hok g2
    rw [g1] at ho
    cases ho
    exact ⟨od, _, es, ep, upd_same, hx, hdt, hm, hE _, .inl ⟨_, rfl⟩⟩
  · obtain ⟨od, J⟩ := I.lock hd trivial
    refine ⟨_, J, q od ?_⟩
    obtain ⟨g1, ⟨⟨o, ho, hx, hdt⟩, hm⟩, _⟩ := J.hok d _ upd_same
    rw [g1] at ho
    cases ho
    exact ⟨od, _, es, ep, upd_same, hx, hdt, hm, he.up (tup_upd hd fun xs z => nomatch z), .inr ⟨_, _, rfl⟩⟩
end
def tFrz (w : World) (te : TE) : TE := fun σ H Q => te σ H fun v H1 => ∃ d, FrzS w H1 d (fun H2 => Q v H2)
theorem pe_frz {X : Cx} {e : Expr} {te : TE} (h : PE X e te) : PE X e (tFrz X.w te) := by
  refine ⟨fun pins s σ H Q I hw => ?_⟩
  refine thn (h.run pins s σ H _ I hw) fun u s1 ⟨x, H1, I1, r, d, q⟩ => ?_
  obtain ⟨H2, I2, q⟩ := q.run I1
  exact ⟨x, H2, I2, r, q⟩
end My

set_option linter.all false
namespace My
open PySem PySem.Spec PyProof.Rows L2
/-! ### d[k] = v, any key -/
def putN (kvs : List Kvv) (k : NestedKey) (i v : V) : List Kvv := if k ∈ kvs.map (·.1) then kvs.map (fun x => if x.1 = k then (x.1, x.2.1, v) else x) else kvs ++ [(k, i, v)]
theorem putN_new {kvs : List Kvv} {k : NestedKey} {i v : V} (h : k ∉ kvs.map (·.1)) : putN kvs k i v = kvs ++ [(k, i, v)] := if_neg h
theorem putN_old {kvs : List Kvv} {k : NestedKey} {i v : V} (h : k ∈ kvs.map (·.1)) : putN kvs k i v = kvs.map (fun x => if x.1 = k then (x.1, x.2.1, v) else x) := if_pos h
theorem putN_keys_old {kvs : List Kvv} {k : NestedKey} {v : V} : (kvs.map (fun x => if x.1 = k then (x.1, x.2.1, v) else x)).map (·.1) = kvs.map (·.1) := by
  rw [List.map_map]
  refine List.map_congr_left fun x _ => ?_
  show (if x.1 = k then (x.1, x.2.1, v) else x).1 = x.1
  split <;> rfl
theorem paired_app {α β : Type} {G : α → β → Prop} : ∀ {l1 : List α} {l2 : List β} {m1 : List α} {m2 : List β}, Paired G l1 l2 → Paired G m1 m2 → Paired G (l1 ++ m1) (l2 ++ m2)
  | _, _, _, _, .nil, h => h
  | _, _, _, _, .cons a t, h => .cons a (paired_app t h)
theorem paired_mod {w : World} {H : Hp} {k : NestedKey} {v : V} {u : Value} (r : RelV v u) : ∀ {kvs : List Kvv} {es : List DictEntry} {j : Nat}, Paired (EnV w H) kvs es → (kvs.map (·.1)).Nodup → (kvs.map (·.1))[j]? = some k → Paired (EnV w H) (kvs.map (fun x => if x.1 = k then (x.1, x.2.1, v) else x)) (es.modify j (fun e => { e with val := u }))
  | _, _, _, .nil, _, e => by simp at e
  | x :: kvs, e :: es, 0, .cons h t, n, hj => by
    simp only [List.map_cons, List.getElem?_cons_zero, Option.some.injEq] at hj
    rw [List.map_cons, List.nodup_cons] at n
    rw [List.map_cons, List.modify_zero_cons, if_pos hj]
    refine .cons ⟨h.1, h.2.1, h.2.2.1, h.2.2.2.1, r⟩ ?_
    have : kvs.map (fun x => if x.1 = k then (x.1, x.2.1, v) else x) = kvs := by
      conv => rhs; rw [← List.map_id kvs]
      refine List.map_congr_left fun y hy => if_neg fun z => n.1 ?_
      rw [hj, ← z]
      exact List.mem_map.mpr ⟨y, hy, rfl⟩
    rw [this]
    exact t
  | x :: kvs, e :: es, j + 1, .cons h t, n, hj => by
    simp only [List.map_cons, List.getElem?_cons_succ] at hj
    rw [List.map_cons, List.nodup_cons] at n
    rw [List.map_cons, List.modify_succ_cons]
    rw [if_neg fun z => n.1 (by rw [z]; exact List.mem_of_getElem? hj)]
    exact .cons h (paired_mod r t n.2 hj)
theorem ents_put {w : World} {H H' : Hp} {kvs : List Kvv} {es es' : Array DictEntry} {k : NestedKey} {i v : V} {iu u : Value} (h : Ents w H kvs es) (hk : KeyV H k i) (ri : RelV i iu) (h8 : k.depth ≤ 8) (rv : RelV v u) (hz : kvs.length < sizeLine)
    (up : ∀ b xs, H b = some (.tup xs) → H' b = some (.tup xs))
    (c : (k ∉ kvs.map (·.1) ∧ es' = es.push ⟨k.hash w, iu, u⟩) ∨ ∃ (j : Nat) (e : DictEntry), (kvs.map (·.1))[j]? = some k ∧ es[j]? = some e ∧ es' = es.modify j (fun e => { e with val := u })) : Ents w H' (putN kvs k i v) es' := by
  rcases c with ⟨n, rfl⟩ | ⟨j, e, hj, he, rfl⟩
  · rw [putN_new n]
    refine ⟨?_, ?_, by rw [List.length_append, List.length_singleton]; omega⟩
    · rw [Array.toList_push]
      exact paired_app (h.up up).prd (.cons ⟨hk.up up, ri, rfl, h8, rv⟩ .nil)
    · rw [List.map_append, List.nodup_append]
      refine ⟨h.nod, by simp, fun x hx y hy z => n ?_⟩
      simp only [List.map_cons, List.map_nil, List.mem_singleton] at hy
      rw [← hy, ← z]; exact hx
  · rw [putN_old (List.mem_of_getElem? hj)]
    refine ⟨?_, by rw [putN_keys_old]; exact h.nod, by rw [List.length_map]; exact h.lt⟩
    have := paired_mod (w := w) rv (h.up up).prd h.nod hj
    have e2 : (es.modify j (fun e => { e with val := u })).toList = es.toList.modify j (fun e => { e with val := u }) := by
      cases es; simp
    rw [e2]; exact this
def rSetN (w : World) : V → V → V → Hp → (Hp → Prop) → Prop := fun o i v H Q => ∃ (d : Addr) (k : NestedKey), o = .ref d ∧ KeyV H k i ∧ k.depth ≤ 8 ∧
  ((∃ kvs, H d = some (.dK kvs) ∧ kvs.length < sizeLine ∧ ∀ H', (∀ b, b ≠ d → H' b = H b) → DN w H' d (putN (kvvs kvs) k i v) → Q H') ∨
   ∃ kvs, DN w H d kvs ∧ kvs.length < sizeLine ∧ ∀ H', (∀ b, b ≠ d → H' b = H b) → DN w H' d (putN kvs k i v) → Q H')
section
variable {X : Cx} {pins : List (Addr × Obj)} {σ : L2.St} {H : Hp} {s : Shared}
theorem ext_ok {P : Program} {w : World} {H : Hp} {h : Heap} {d : Addr} {es : Array DictEntry} {ep : Nat} (r : h.DictRaw d es ep) (m : (d == sysModules) = false) : ObjOk P w H h d (rawO d es ep) :=
  ⟨⟨r, m⟩, (let ⟨o, e, _⟩ := r; ⟨o, e⟩), fun h1 h2 q k => ⟨(let ⟨o, e, x⟩ := q.1; ⟨o, k o e, x⟩), q.2⟩⟩
theorem set_any (hu : X.A.units + 9 < cLine) : PSet X (rSetN X.w) := by
  intro pins s σ H o i v ov iv u Q I ro ri rv h
  obtain ⟨d, k, rfl, hk, h8, h⟩ := h
  obtain rfl : ov = Value.ref d := ro
  have key : ∀ {kvs : List Kvv} {ob : Obj} {es : Array DictEntry} {ep : Nat} {hd : HO}, H d = some hd → Mut (some hd) → (∀ xs, hd ≠ .tup xs) → s.heap.get? d = some ob → ob.ExactDict → ob.data = .dict es ep → (d == sysModules) = false → Ents X.w H kvs es → kvs.length < sizeLine →
      (∀ H', (∀ b, b ≠ d → H' b = H b) → DN X.w H' d (putN kvs k i v) → Q H') → wpAny (model X.prog X.w) X.A (setItem (.ref d) iv u) (fun _ s' => ∃ H', Inv X pins σ H' s' ∧ Q H') X.xe s := by
    intro kvs ob es ep hd hH mu nt ho hx hdt hm hE hz q
    refine setItem_any hu (hk.is I ri) h8 ho hx hdt (hE.ks I) (by rw [← hE.len]; exact hE.lt) fun h' es' ep' hr hs hc => ?_
    have up : ∀ b xs, H b = some (.tup xs) → upd H d (rawO d es' ep') b = some (.tup xs) := tup_upd hH nt
    refine ⟨upd H d (rawO d es' ep'), I.write (x := d) (e := d) (by rw [hH]; exact mu) (.inl rfl) (fun b u hb e => (hs.2 b hb).trans e) (let ⟨o, e, _⟩ := hr; ⟨o, e⟩) (ext_ok hr hm), q _ (fun b hb => upd_ne hb) ⟨es', ep', upd_same, ents_put hE hk ri h8 rv hz up hc⟩⟩
  rcases h with ⟨kvs, hd, hz, q⟩ | ⟨kvs, hd, hz, q⟩
  · obtain ⟨ob, es, ep, ho, hx, hdt, hm, hE⟩ := dk_raw I.hok (I.hok _ _ hd)
    exact key hd trivial (fun _ z => nomatch z) ho hx hdt hm (hE H) (by unfold kvvs; rw [List.length_map]; exact hz) q
  · obtain ⟨ob, es, ep, hH, ho, hx, hdt, hm, hE⟩ := hd.raw I.hok
    exact key hH trivial (fun _ z => nomatch z) ho hx hdt hm hE hz q
/-! ### {k: v}, one entry, any key -/
def tDisp1 (w : World) (tk tv : TE) : TE := fun σ H Q => ∀ p, H p = none → tk σ (upd H p (rawO p #[] 0)) fun x H1 => tv σ H1 fun y H2 => ∃ k : NestedKey, H2 p = some (rawO p #[] 0) ∧ KeyV H2 k x ∧ k.depth ≤ 8 ∧
  ∀ H3, (∀ b, b ≠ p → H3 b = H2 b) → DN w H3 p [(k, x, y)] → Q (.ref p) H3
theorem pe_disp1 {ek ev : Expr} {tk tv : TE} {pos : Pos} (hu : X.A.units + 8 < cLine) (hk : PE X ek tk) (hv : PE X ev tv) : PE X (.Dict [some ek] [ev] pos) (tDisp1 X.w tk tv) := by
  refine ⟨fun pins s σ H Q I q => ?_⟩
  have hn := I.hok.fresh (Nat.le_refl s.heap.objs.size)
  have hm : (s.heap.objs.size == sysModules) = false := beq_eq_false_iff_ne.mpr (Nat.ne_of_gt I.big)
  have I1 := I.laid (a := s.heap.objs.size) (o := rawO s.heap.objs.size #[] 0) (h' := s.heap.push { cls := .type "dict", data := .dict #[] }) (t' := s.toks) (fun _ _ q => Heap.get?_push_of_some _ q) (Nat.le_refl _)
    (ext_ok ⟨_, Heap.get?_push_size _ rfl, ⟨rfl, rfl, rfl⟩, rfl⟩ hm)
  rw [arm_eval_Dict, zip_pairTrees _ _ _ _ rfl rfl, dictDisplay_pairs _ (by simp [pairTrees]) (by simp [pairTrees])]
  refine wpAny_bind (wpAny_standAt (wpAny_bind ?_))
  unfold subDict
  refine wpAny_bind (wpAny_alloc ?_)
  refine wpAny_bind (wpAny_holding ?_)
  rw [if_pos (by simp [pairTrees])]
  refine wpAny_bind (pairTrees_cons_walk ?_)
  refine thn (hk.run pins _ σ _ _ I1 (q _ hn)) fun u1 s1 ⟨x, H1, J1, r1, q1⟩ => ?_
  refine thn (hv.run pins _ σ _ _ J1 q1) fun u2 s2 ⟨y, H2, J2, r2, k, hp, hkv, h8, q2⟩ => ?_
  refine pairTrees_nil_walk (wpAny_holding ?_)
  obtain ⟨⟨⟨ob, ho, hx, hd⟩, _⟩, _⟩ := J2.hok _ _ hp
  rw [List.forIn_cons]
  refine wpAny_bind (wpAny_bind (wpAny_bind (dictSet_any hu (hkv.is J2 r1) h8 ho hx hd (ks := []) ⟨rfl, (fun i e he => by simp at he), List.nodup_nil⟩ (Nat.zero_le _) fun h' es' ep' hr hs hc => wpAny_pure ?_)))
  dsimp only
  rw [List.forIn_nil]
  have up : ∀ b xs, H2 b = some (.tup xs) → upd H2 s.heap.objs.size (rawO s.heap.objs.size es' ep') b = some (.tup xs) := tup_upd hp fun xs z => nomatch z
  refine wpAny_pure (wpAny_pure (wpAny_pure (wpAny_pure ⟨.ref _, upd H2 s.heap.objs.size (rawO s.heap.objs.size es' ep'), J2.write (x := s.heap.objs.size) (e := s.heap.objs.size) (by rw [hp]; trivial) (.inl rfl) (fun b u hb e => (hs.2 b hb).trans e) (let ⟨o, e, _⟩ := hr; ⟨o, e⟩) (ext_ok hr hm), rfl,
    q2 _ (fun b hb => upd_ne hb) ⟨es', ep', upd_same, ?_⟩⟩)))
  have := ents_put (kvs := []) (es := #[]) (w := X.w) (H := H2) (H' := upd H2 s.heap.objs.size (rawO s.heap.objs.size es' ep')) ⟨.nil, List.nodup_nil, Nat.zero_le _⟩ hkv r1 h8 r2 (by show 0 < sizeLine; decide) up hc
  rw [putN_new (by simp)] at this
  exact this
/-! ### dict(l), l a list of pairs -/
def putsN (kvs more : List Kvv) : List Kvv := more.foldl (fun acc x => putN acc x.1 x.2.1 x.2.2) kvs
theorem putN_len {kvs : List Kvv} {k : NestedKey} {i v : V} : (putN kvs k i v).length ≤ kvs.length + 1 := by
  unfold putN
  split
  · rw [List.length_map]; omega
  · simp
theorem putsN_len : ∀ (more kvs : List Kvv), (putsN kvs more).length ≤ kvs.length + more.length
  | [], _ => Nat.le_refl _
  | x :: r, kvs => by
    have h1 := putsN_len r (putN kvs x.1 x.2.1 x.2.2)
    have h2 := putN_len (kvs := kvs) (k := x.1) (i := x.2.1) (v := x.2.2)
    show (putsN (putN kvs x.1 x.2.1 x.2.2) r).length ≤ _
    rw [List.length_cons]; omega
theorem putsN_snoc (kvs more : List Kvv) (x : Kvv) : putsN kvs (more ++ [x]) = putN (putsN kvs more) x.1 x.2.1 x.2.2 := by unfold putsN; rw [List.foldl_append]; rfl
def rDictP (w : World) (K : PySem.W.Frag) : List V → Hp → VK → Prop := fun xs H Q => ∃ (a : Addr) (zs : List (Addr × Kvv)), xs = [.ref a] ∧ SqL K H a (zs.map fun z => V.ref z.1) ∧ zs.length ≤ 1000 ∧
  (∀ z ∈ zs, H z.1 = some (.tup [z.2.2.1, z.2.2.2]) ∧ KeyV H z.2.1 z.2.2.1 ∧ z.2.1.depth ≤ 8) ∧ ∀ p H', H p = none → (∀ b, b ≠ p → H' b = H b) → DN w H' p (putsN [] (zs.map (·.2))) → Q (.ref p) H'
theorem call_dictP' (hcalm : X.calm = true) (hu : X.A.units + 64 < cLine) : CallR X (.type "dict") (rDictP X.w X.K) := by
  intro pins s σ H xs us Q I r q
  obtain ⟨a, zs, ex, hq, h1k, hz, q⟩ := q
  subst ex
  obtain ⟨u, eu, rx⟩ := vals1 r
  subst eu
  cases rx
  obtain ⟨its, rv, pl, hsz⟩ := I.list hq
  obtain ⟨o, n, ho, hc, hd, hdat⟩ := pl
  have ei : its = zs.map fun z => Value.ref z.1 := by
    have := refs_at (ps := zs.map (·.1)) (us := its) (by rw [List.map_map]; exact rv)
    rw [this, List.map_map]; rfl
  subst ei
  have hm : (s.heap.objs.size == sysModules) = false := beq_eq_false_iff_ne.mpr (Nat.ne_of_gt I.big)
  -- the pairs as they stand
  have look : ∀ z ∈ zs, ∃ (k v : Value) (o2 : Obj) (n2 : Nat), s.heap.get? z.1 = some o2 ∧ o2.cls = .type "tuple" ∧ o2.data = .seq #[k, v] n2 ∧ RelV z.2.2.1 k ∧ RelV z.2.2.2 v := fun z hzm => by
    obtain ⟨_, its, rv2, o2, ho2, hc2, n2, hd2⟩ := I.hok _ _ (hz z hzm).1
    obtain ⟨x1, x2, ei2, r1, r2⟩ := vals2 rv2
    subst ei2
    exact ⟨x1, x2, o2, n2, ho2, hc2, hd2, r1, r2⟩
  have mk : ∃ ps : List (Value × Value), ps.length = zs.length ∧ ∀ (j : Nat) (z : Addr × Kvv), zs[j]? = some z → ∃ k v, ps[j]? = some (k, v) ∧ RelV z.2.2.1 k ∧ RelV z.2.2.2 v ∧ s.heap.IsTuple z.1 #[k, v] := by
    clear q hq rv ho hdat hd hc h1k hsz
    induction zs with
    | nil => exact ⟨[], rfl, fun j z e => by simp at e⟩
    | cons z r ih =>
      obtain ⟨ps, l, h⟩ := ih (fun y hy => hz y (List.mem_cons_of_mem _ hy)) fun y hy => look y (List.mem_cons_of_mem _ hy)
      obtain ⟨k, v, o2, n2, g1, g2, g3, g4, g5⟩ := look z List.mem_cons_self
      refine ⟨(k, v) :: ps, by simp [l], fun j y e => ?_⟩
      cases j with
      | zero =>
        simp only [List.getElem?_cons_zero, Option.some.injEq] at e
        subst e
        exact ⟨k, v, rfl, g4, g5, o2, g1, g2, n2, g3⟩
      | succ j => exact h j y (by simpa using e)
  obtain ⟨ps, lps, hps⟩ := mk
  have psz : ∀ (j : Nat) (k v : Value), ps[j]? = some (k, v) → ∃ z, zs[j]? = some z ∧ RelV z.2.2.1 k ∧ RelV z.2.2.2 v ∧ s.heap.IsTuple z.1 #[k, v] := fun j k v e => by
    have hj : j < zs.length := by rw [← lps]; exact (List.getElem?_eq_some_iff.mp e).1
    obtain ⟨k2, v2, e2, r1, r2, r3⟩ := hps j _ (List.getElem?_eq_getElem hj)
    rw [e] at e2
    cases e2
    exact ⟨_, List.getElem?_eq_getElem hj, r1, r2, r3⟩
  let Tab : Nat → Heap → Prop := fun i h => ∃ es ep, h.DictRaw s.heap.objs.size es ep ∧ Ents X.w H (putsN [] ((zs.map (·.2)).take i)) es ∧ ∀ b o, s.heap.get? b = some o → h.get? b = some o
  have szT : ∀ i, (putsN [] ((zs.map (·.2)).take i)).length ≤ 1000 := fun i => by
    have := putsN_len ((zs.map (·.2)).take i) []
    rw [List.length_take, List.length_map, List.length_nil] at this
    omega
  refine PySem.call_dict_arg (PairArg.list a (zs.map fun z => Value.ref z.1).toArray (fun j => ((zs[j]?).map (·.1)).getD 0) ps) ⟨⟨o, n, ho, hc, hd, hdat⟩, by simp [lps], fun j k v e => ?_⟩ fun s1 hs1 hdf ok1 => ?_
  · obtain ⟨z, ez, _, _, r3⟩ := psz j k v e
    refine ⟨by simp [ez], .inl ?_⟩
    show s.heap.IsTuple (((zs[j]?).map (·.1)).getD 0) _
    rw [ez]; exact r3
  · subst hs1
    refine updateFrom_arg (Tab := Tab) (PairArg.list a (zs.map fun z => Value.ref z.1).toArray (fun j => ((zs[j]?).map (·.1)).getD 0) ps) .none (I.ok.hd hcalm) ok1 hdf ?_ ?_ ?_ ?_ ?_
    · refine ⟨#[], 0, ⟨_, Heap.get?_push_size _ rfl, ⟨rfl, rfl, rfl⟩, rfl⟩, ?_, fun b o e => Heap.get?_push_of_some _ e⟩
      exact ⟨.nil, List.nodup_nil, Nat.zero_le _⟩
    · rintro i h ⟨es, ep, ⟨o, e, _⟩, _⟩
      exact Heap.lt_size e
    · rintro i h h' wr' nd hw ⟨es, ep, ⟨o, e, x⟩, hE, old⟩ k
      refine ⟨es, ep, ⟨o, k _ _ nd e, x⟩, hE, fun b o e => k b o (fun hb => ?_) (old b o e)⟩
      rcases hw b hb with z | z
      · cases z
      · rw [show (s.heap.push { cls := .type "dict", data := .dict #[] }).get? b = some o from Heap.get?_push_of_some _ e] at z
        cases z
    · rintro i k v s' Q' E' hi hr ⟨es, ep, ⟨ob, hob, hx, hdt⟩, hE, old⟩ hT qs
      obtain ⟨z, ez, r1, r2, r3⟩ := psz i k v hr
      obtain ⟨g1, g2, g3⟩ := hz z (List.mem_of_getElem? ez)
      have lift : ∀ {kk : NestedKey} {u : Value}, NestedIs s.heap kk u → NestedIs s'.heap kk u := fun x => NestedIs.at (fun b o vs m e _ => old b o e) _ _ x
      have KS := hE.ks I
      refine dictSet_any (by show X.A.units + 1 + 1 + 8 < cLine; omega) (lift (g2.is I r1)) g3 hob hx hdt (ks := (putsN [] ((zs.map (·.2)).take i)).map (·.1)) ⟨KS.len, (fun i e he => let ⟨x, h1, h2, h3⟩ := KS.at' i e he; ⟨x, h1, lift h2, h3⟩), KS.nod⟩ (by rw [← hE.len]; exact hE.lt) fun h' es' ep' hr' hs' hc' => qs h' _ ⟨es', ep', hr', ?_, fun b o e => ?_⟩ hs'
      · have et : (zs.map (·.2)).take (i + 1) = (zs.map (·.2)).take i ++ [z.2] := by
          rw [List.take_add_one, List.getElem?_map, ez]; rfl
        rw [et, putsN_snoc]
        exact ents_put hE g2 r1 g3 r2 (by have := szT i; rw [sizeLine_eq]; omega) (fun b xs e => e) hc'
      · exact (hs'.2 b (fun hb => by
          rw [hb] at e
          exact absurd (Heap.lt_size e) (Nat.lt_irrefl _))).trans (old b o e)
    · rintro h' tk ⟨es, ep, hr, hE, old⟩ kp
      refine ⟨rfl, ?_⟩
      have up : ∀ b xs, H b = some (.tup xs) → upd H s.heap.objs.size (rawO s.heap.objs.size es ep) b = some (.tup xs) := fun b xs e => by
        rw [upd_ne (fun hb => by rw [hb, I.hok.fresh (Nat.le_refl _)] at e; cases e)]; exact e
      rw [lps, ← List.length_map (f := fun z : Addr × Kvv => z.2) (as := zs), List.take_length] at hE
      exact ⟨.ref _, upd H s.heap.objs.size (rawO s.heap.objs.size es ep), I.laid (t' := tk) (fun b o e => old b o e) (Nat.le_refl _) (ext_ok hr hm), rfl, q _ _ (I.hok.fresh (Nat.le_refl _)) (fun b hb => upd_ne hb) ⟨es, ep, upd_same, hE.up up⟩⟩
end
end My

set_option linter.all false
namespace My
open PySem PySem.Spec PyProof.Rows L2
/-! ### a dict that stands still: its length, its walks, what is in it -/
section
variable {prog : Program} {w : World} {A : Around} {E : Value → Shared → Prop} {s : Shared}
theorem len_raw {d : Addr} {es : Array DictEntry} {ep : Nat} {Q : Value → Shared → Prop} (hd : (d == sysModules) = false) (hm : s.heap.DictRaw d es ep) (hz : es.size ≤ sizeLine) (q : ∀ t s', s' = { s with toks := t } → Q (.int es.size (s.toks + 1)) s') : wpAny (model prog w) A (call (.builtin "len") [.ref d]) Q E s := by
  have ln : (es.size : Int) < 2 ^ 63 := by rw [sizeLine_eq] at hz; omega
  refine Calls.call_function_entry kind_len plain_len entry_len (args_len1 _) ?_
  unfold Builtin.«len»
  refine wpAny_bind (m := oneArg "len" _) (wpAny_pure ?_)
  refine wpAny_bind (m := callSpecial? (.ref d) (Str.ofString "__len__")) (wpAny_callSpecial?_slot (name := Str.ofString "__len__") hm.typeIs F.slot_dict_len
    (call_meetsIn F.slot_dict_len hm.typeIs F.entry_dict_len (F.args_dict_len_1 _) (meets_dict_len_raw d hd) ⟨es, ep, hm, ?_⟩))
  show wpAny _ _ _ _ _ { s with toks := s.toks + 1 }
  refine wpAny_bind (wpAny_holding (wpAny_pure (wpAny_bind (wpAny_letGo ?_))))
  show wpAny _ _ (if ((es.size : Nat) : Int) < 0 then _ else _) _ _ _
  rw [if_neg (by omega)]
  show wpAny _ _ (if ((es.size : Nat) : Int) ≥ 2 ^ 63 then _ else _) _ _ _
  rw [if_neg (by omega)]
  exact wpAny_bind (wpAny_mkInt (wpAny_pure ⟨_, rfl, q _ _ rfl⟩))
theorem meets_vals_raw {d : Addr} (hd : (d == sysModules) = false) :
    MeetsIn prog w (Builtin.«dict.values» ⟨[.ref d], []⟩) (fun _ R s => (∃ es ep, s.heap.DictRaw d es ep) ∧ R (.ok (.ret (.ref s.heap.objs.size))) { s with heap := s.heap.push { cls := .type "dict_values", data := .fields #[.ref d] } }) :=
  .of_wp fun A R s ⟨⟨es, ep, hm⟩, q⟩ => by
    unfold Builtin.«dict.values»
    refine wpAny_bind ?_
    unfold Builtin.Dict.noArgs
    refine wpAny_bind (wpAny_notOrdered_dict hm.typeIs (wpAny_pure ?_))
    show wpAny _ _ (Builtin.Dict.showsAll d >>= _) _ _ s
    unfold Builtin.Dict.showsAll
    rw [if_neg (by rw [hd]; exact Bool.false_ne_true)]
    exact wpAny_bind (wpAny_pure (wpAny_bind (wpAny_newObj_type (wpAny_pure ⟨_, rfl, q⟩))))
end
section
variable {X : Cx}
theorem call_lenF : CallR X (.builtin "len") (fun xs H Q => ∃ d kvs, xs = [V.ref d] ∧ DF X.w H d kvs ∧ Q (.int kvs.length) H) := by
  intro pins s σ H xs us Q I r h
  obtain ⟨d, kvs, rfl, hd, q⟩ := h
  obtain ⟨u, rfl, rx⟩ := vals1 r
  cases rx
  obtain ⟨od, u, es, ep, _, ho, hx, hdt, hm, hE⟩ := hd.raw I.hok
  refine len_raw hm ⟨od, ho, hx, hdt⟩ (by rw [← hE.len]; exact hE.lt) fun t s' e => ?_
  subst e
  exact ⟨.int kvs.length, H, I.tok _, ⟨_, by rw [hE.len]⟩, q⟩
def rIsiF (w : World) (K : PySem.W.Frag) : List V → Hp → VK → Prop := fun xs H Q => ∃ (d : Addr) (kvs : List Kvv) (T : String) (b : Bool), xs = [.ref d, .ty T] ∧ DF w H d kvs ∧ kitB "dict" T = some b ∧ Q (.bl b) H
theorem call_isiF : CallR X (.builtin "isinstance") (rIsiF X.w X.K) := by
  intro pins s σ H xs us Q I r h
  obtain ⟨d, kvs, T, b, rfl, hd, hk, q⟩ := h
  obtain ⟨u1, u2, rfl, r1, r2⟩ := vals2 r
  cases (show u1 = Value.ref d from r1)
  cases (show u2 = Value.type T from r2)
  obtain ⟨od, u, es, ep, _, ho, hx, hdt, hm, hE⟩ := hd.raw I.hok
  exact PySem.W.kia_one (PySem.W.kitx_dict) I.kIn ⟨od, ho, hx.1⟩ (kit_ty hk) (fun z => nomatch z) fun tk => ⟨.bl b, H, I.tok tk, rfl, q⟩
/-- k in d -/
theorem op_inF (hu : X.A.units + 9 < cLine) : OpR X (compareOp .In) (fun x y H Q => ∃ (d : Addr) (kvs : List Kvv) (k : NestedKey), y = .ref d ∧ DF X.w H d kvs ∧ KeyV H k x ∧ k.depth ≤ 8 ∧ Q (.bl (decide (k ∈ kvs.map (·.1)))) H) := by
  intro pins s σ H x y v u Q I rx ry h
  obtain ⟨d, kvs, k, rfl, hd, hk, h8, q⟩ := h
  cases (show u = Value.ref d from ry)
  obtain ⟨od, hu', es, ep, _, ho, hx, hdt, hm, hE⟩ := hd.raw I.hok
  show wpAny _ _ (do return Value.bool (← contains (.ref d) v)) _ _ s
  exact wpAny_bind (contains_any hu (hk.is I rx) h8 hm ho hx hdt (hE.ks I) (wpAny_pure ⟨.bl (decide (k ∈ kvs.map (fun x : Kvv => x.1))), H, I.tok _, rfl, q⟩))
end
/-! walks -/
def ItkF (w : World) (d : Addr) (od : Obj) (kvs : List Kvv) : It :=
  ⟨fun i H => (∃ u, H d = some (.frz od u)) ∧ DF w H d kvs ∧ i < kvs.length, fun i H x H' => H' = H ∧ ∃ k v, kvs[i]? = some (k, x, v), fun i H => (∃ u, H d = some (.frz od u)) ∧ DF w H d kvs ∧ kvs.length ≤ i⟩
def ItvF (w : World) (d : Addr) (od : Obj) (kvs : List Kvv) : It :=
  ⟨fun i H => (∃ u, H d = some (.frz od u)) ∧ DF w H d kvs ∧ i < kvs.length, fun i H x H' => H' = H ∧ ∃ k v, kvs[i]? = some (k, v, x), fun i H => (∃ u, H d = some (.frz od u)) ∧ DF w H d kvs ∧ kvs.length ≤ i⟩
section
variable {P : Program} {w : World} {K : PySem.W.Frag} {tg : Expr} {d : Addr} {o : Obj} {es : Array DictEntry} {ep : Nat}
theorem df_at {X : Cx} {pins : List (Addr × Obj)} {σ : L2.St} {H : Hp} {s : Shared} {kvs : List Kvv} (I : Inv X pins σ H s) (h1 : ∃ u, H d = some (.frz o u)) (h2 : DF X.w H d kvs) (hod : o.data = .dict es ep) : s.heap.get? d = some o ∧ o.ExactDict ∧ (d == sysModules) = false ∧ Ents X.w H kvs es := by
  obtain ⟨u, h1⟩ := h1
  obtain ⟨od, u2, es2, ep2, g1, ho, hx, hdt, hm, hE⟩ := h2.raw I.hok
  rw [h1] at g1
  cases g1
  obtain ⟨rfl, rfl⟩ := dict_ep hod hdt
  exact ⟨ho, hx, hm, hE⟩
theorem turn_keysF {kvs : List Kvv} (it : Addr) (hod : o.data = .dict es ep) : Turn P w K tg (ItkF w d o kvs) [it] it (fun i h => h.IsKeyIter it d i kvs.length ep) where
  mem := by simp
  obj := fun i h st b hb => by
    obtain rfl : b = it := by simpa using hb
    obtain ⟨oi, e, c, dd⟩ := st
    exact ⟨oi, e, fun v z => by rw [dd] at z; cases z⟩
  keep := fun i h h' st k => st.at fun oi e => k it (by simp) oi e
  item := by
    intro X hP hw hK hc i pins s σ H E I hf st hg
    subst hP hw hK
    obtain ⟨h1, h2, hi⟩ := hg
    obtain ⟨f0, f1, f2, f3, f4, f5⟩ := hf it (by simp)
    obtain ⟨hgd, hx, hm, hE⟩ := df_at I h1 h2 hod
    obtain ⟨⟨k, kv, v⟩, hkv⟩ : ∃ p, kvs[i]? = some p := ⟨kvs[i], List.getElem?_eq_getElem hi⟩
    obtain ⟨en, hen, hev⟩ := hE.get hkv
    refine next_key_item st hgd hod hE.len.symm hen fun h' st' sb => ?_
    have I1 : Inv X pins σ H { s with heap := h' } := I.turned (t' := s.toks) (fun b ob hb e => (sb.2 b hb).trans e) f0 f1 f3 f4 f5
    obtain ⟨oi, e, c, dd⟩ := id st'
    exact ⟨en.key, rfl, go_of (s := { s with heap := h' }) e c dd (by decide) ⟨kv, H, I1, hev.2.1, ⟨rfl, k, v, hkv⟩, st', fun b hb => (hf b hb).1⟩⟩
  done := by
    intro X hP hw hK hc i pins s σ H E I hf st hg
    subst hP hw hK
    obtain ⟨h1, h2, hi⟩ := hg
    obtain ⟨f0, f1, f2, f3, f4, f5⟩ := hf it (by simp)
    obtain ⟨hgd, hx, hm, hE⟩ := df_at I h1 h2 hod
    exact next_key_end (I.ok.hd hc) st hgd hod hE.len.symm hi fun h' eb => ⟨rfl, I.turned (t' := s.toks) (fun b ob hb e => eb b ob hb e) f0 f1 f3 f4 f5⟩
  self := fun A i s Q E st h => wpAny_pyIter_keyiter st h
theorem turn_valsF {kvs : List Kvv} (it : Addr) (hod : o.data = .dict es ep) : Turn P w K tg (ItvF w d o kvs) [it] it (fun i h => h.IsValIter it d i kvs.length ep) where
  mem := by simp
  obj := fun i h st b hb => by
    obtain rfl : b = it := by simpa using hb
    obtain ⟨oi, e, c, dd⟩ := st
    exact ⟨oi, e, fun v z => by rw [dd] at z; cases z⟩
  keep := fun i h h' st k => st.at fun oi e => k it (by simp) oi e
  item := by
    intro X hP hw hK hc i pins s σ H E I hf st hg
    subst hP hw hK
    obtain ⟨h1, h2, hi⟩ := hg
    obtain ⟨f0, f1, f2, f3, f4, f5⟩ := hf it (by simp)
    obtain ⟨hgd, hx, hm, hE⟩ := df_at I h1 h2 hod
    obtain ⟨⟨k, kv, v⟩, hkv⟩ : ∃ p, kvs[i]? = some p := ⟨kvs[i], List.getElem?_eq_getElem hi⟩
    obtain ⟨en, hen, hev⟩ := hE.get hkv
    have hlt : i < es.size := by rw [← hE.len]; exact hi
    rw [hE.len] at st
    refine wpAny_pyNext_values_item_raw st ⟨o, hgd, hx, hod⟩ hlt fun h' st' sb => ?_
    have I1 : Inv X pins σ H { s with heap := h' } := I.turned (t' := s.toks) (fun b ob hb e => (sb.2 b hb).trans e) f0 f1 f3 f4 f5
    obtain ⟨oi, e, c, dd⟩ := id st'
    have een : es[i] = en := by rw [Array.getElem?_eq_getElem hlt] at hen; exact Option.some.inj hen
    refine ⟨es[i].val, rfl, go_of (s := { s with heap := h' }) e c dd (by decide) ⟨v, H, I1, by rw [een]; exact hev.2.2.2.2, ⟨rfl, k, kv, hkv⟩, ?_, fun b hb => (hf b hb).1⟩⟩
    show h'.IsValIter it d (i + 1) kvs.length _
    rw [hE.len]; exact st'
  done := by
    intro X hP hw hK hc i pins s σ H E I hf st hg
    subst hP hw hK
    obtain ⟨h1, h2, hi⟩ := hg
    obtain ⟨f0, f1, f2, f3, f4, f5⟩ := hf it (by simp)
    obtain ⟨hgd, hx, hm, hE⟩ := df_at I h1 h2 hod
    rw [hE.len] at st
    exact wpAny_pyNext_values_end_raw (I.ok.hd hc) st ⟨o, hgd, hx, hod⟩ (by rw [← hE.len]; exact hi) fun h' eb => ⟨rfl, I.turned (t' := s.toks) (fun b ob hb e => eb b ob hb e) f0 f1 f3 f4 f5⟩
  self := fun A i s Q E st h => wpAny_pyIter_valiter st h
end
def iKeysF (w : World) (td : TE) : TI := fun σ H R => td σ H fun x H1 => ∃ d kvs, x = .ref d ∧ DF w H1 d kvs ∧ ∀ od u, H1 d = some (.frz od u) → R (ItkF w d od kvs) H1
def iValsF (w : World) (td : TE) : TI := fun σ H R => td σ H fun x H1 => ∃ d kvs, x = .ref d ∧ DF w H1 d kvs ∧ ∀ od u, H1 d = some (.frz od u) → R (ItvF w d od kvs) H1
section
variable {X : Cx} {tg e : Expr} {td : TE} {apos cpos : Pos}
theorem pi_keysF (he : PE X e td) : PI X tg e (iKeysF X.w td) := by
  refine ⟨fun pins s σ H R I h => ?_⟩
  refine thn (he.run pins s σ H _ I h) fun u s1 ⟨x, H1, I1, rx, d, kvs, ex, hd, q⟩ => ?_
  subst ex
  obtain rfl : u = Value.ref d := rx
  obtain ⟨od, u2, es, ep, hf, ho, hx, hdt, hm, hE⟩ := hd.raw I1.hok
  refine iter_keys hm ho hx hdt (pi_one (tk := s1.toks) I1 _ (turn_keysF _ hdt) ⟨_, Heap.get?_push_size _ rfl, rfl, ?_⟩ (q od u2 hf))
  rw [hE.len]; rfl
theorem pi_valsF (he : PE X e td) (hbase : attributeBase e "values" X.env (eval e X.env) = eval e X.env := by rfl) (hline : (apos.endLine == cpos.line) = true := by rfl) : PI X tg (.Call (.Attribute e "values" apos) [] [] cpos) (iValsF X.w td) := by
  refine ⟨fun pins s σ H R I h => ?_⟩
  refine wpAny_Call_method (T := "dict") (id := "dict.values") hbase rfl hline F.plainAttrs_dict F.slot_dict_values F.type_dict_values (thn (he.run pins s σ H _ I h) fun u s1 ⟨x, H1, I1, rx, d, kvs, ex, hd, q⟩ => ?_)
  subst ex
  obtain rfl : u = Value.ref d := rx
  obtain ⟨od, u2, es, ep, hf, ho, hx, hdt, hm, hE⟩ := hd.raw I1.hok
  have raw : s1.heap.DictRaw d es ep := ⟨od, ho, hx, hdt⟩
  refine ⟨raw.typeIs, (fun b z => by cases z; exact ⟨od, ho, hx.2.1⟩), ?_⟩
  have I2 : Inv X pins σ H1 { s1 with heap := s1.heap.push { cls := .type "dict_values", data := .fields #[.ref d] } } := I1.kept (t' := s1.toks) fun b ob q => Heap.get?_push_of_some _ q
  have fin : wpAny (model X.prog X.w) X.A (pyIter (.ref s1.heap.objs.size)) (PIE X pins σ tg R) X.xe { s1 with heap := s1.heap.push { cls := .type "dict_values", data := .fields #[.ref d] } } := by
    refine wpAny_pyIter_values_raw (d := d) (es := es) (ep := ep) ⟨_, Heap.get?_push_size _ rfl, rfl, rfl⟩ (raw.push _) (pi_one (tk := s1.toks) I2 _ (turn_valsF _ hdt) ⟨_, Heap.get?_push_size _ rfl, rfl, ?_⟩ (q od u2 hf))
    rw [hE.len]; rfl
  show wpAny _ _ (callWith cpos (.builtin "dict.values") [.ref d] [] []) _ X.xe s1
  exact method_meetsIn F.slot_dict_values F.entry_dict_values rfl (PySem.evalArgs_none ⟨rfl, raw.typeIs, F.args_dict_values_1 _, _, meets_vals_raw hm, ⟨⟨es, ep, raw⟩, fin⟩⟩)
/-- walks over such a dict -/
theorem walk_keysF {w : World} {d : Addr} {od : Obj} {kvs : List Kvv} : Walk (ItkF w d od kvs) kvs.length (fun H => (∃ u, H d = some (.frz od u)) ∧ DF w H d kvs) (fun i H x H' => H' = H ∧ ∃ k v, kvs[i]? = some (k, x, v)) :=
  ⟨fun i H hi h => ⟨h.1, h.2, hi⟩, fun H h => ⟨h.1, h.2, Nat.le_refl _⟩, fun i H x H' hi h y => y⟩
theorem walk_valsF {w : World} {d : Addr} {od : Obj} {kvs : List Kvv} : Walk (ItvF w d od kvs) kvs.length (fun H => (∃ u, H d = some (.frz od u)) ∧ DF w H d kvs) (fun i H x H' => H' = H ∧ ∃ k v, kvs[i]? = some (k, v, x)) :=
  ⟨fun i H hi h => ⟨h.1, h.2, hi⟩, fun H h => ⟨h.1, h.2, Nat.le_refl _⟩, fun i H x H' hi h y => y⟩
/-- list(d): the keys as they stand -/
theorem call_listF (hc : X.calm = true) : CallR X (.type "list") (fun xs H Q => ∃ d kvs, xs = [V.ref d] ∧ DF X.w H d kvs ∧ ∀ p, H p = none → Q (.ref p) (upd H p (.lst (kvs.map fun x => x.2.1)))) := by
  intro pins s σ H xs us Q I r h
  obtain ⟨d, kvs, rfl, hd, q⟩ := h
  obtain ⟨u, rfl, rx⟩ := r.one
  cases rx
  obtain ⟨od, u2, es, ep, hf, ho, hx, hdt, hm, hE⟩ := hd.raw I.hok
  refine PySem.W.kdl_call (kdl_raw hm hx hdt) (I.ok.hd hc) ho (by have := hE.lt; rw [hE.len] at this; exact this) fun h' tk acc' c' kp e it => ?_
  have rv : Vals (kvs.map fun x => x.2.1) acc'.toList := by
    have hl : kvs.length = acc'.toList.length := by rw [Array.length_toList (xs := acc'), it.1]; exact hE.len
    have key : ∀ (j : Nat) (x : Kvv) (v : Value), kvs[j]? = some x → acc'.toList[j]? = some v → RelV x.2.1 v := fun j x v hj hv => by
      obtain ⟨en, hen, hev⟩ := hE.get hj
      obtain ⟨en2, g1, g2⟩ := it.2 j v (by rw [← hv, Array.getElem?_toList])
      rw [hen] at g1
      cases g1
      rw [g2]; exact hev.2.1
    clear it e hE
    revert hl key
    generalize acc'.toList = l
    clear q hd hf
    induction kvs generalizing l with
    | nil => intro hl _; cases l with | nil => exact .nil | cons _ _ => simp at hl
    | cons x r ih =>
      intro hl key
      cases l with
      | nil => simp at hl
      | cons v l => exact .cons (key 0 x v rfl rfl) (ih l (by simpa using hl) fun j y v hj hv => key (j + 1) y v (by simpa using hj) (by simpa using hv))
  refine ⟨.ref s.heap.objs.size, _, I.laid (t' := tk) (o := .lst (kvs.map fun x => x.2.1)) kp (Nat.le_refl _) ?_, rfl, q _ (I.hok.fresh (Nat.le_refl _))⟩
  exact ⟨by rw [List.length_map]; exact hE.lt, acc'.toList, c', rv, by rw [Array.toArray_toList]; exact e⟩
end
end My

set_option linter.all false
namespace My
open PySem PySem.Spec PyProof.Rows L2
/-! ### data with dicts of any kind, all standing still -/
mutual
inductive Dx (w : World) (G : Hp) : V → PyData → Prop
  | non : Dx w G .non .none
  | bl (b : Bool) : Dx w G (.bl b) (.bool b)
  | int (i : Int) : Dx w G (.int i) (.int i)
  | str (x : Str) : Dx w G (.str x) (.str x)
  | lst {a : Addr} {xs : List V} {ds : List PyData} : G a = some (.lst xs) → DxAll w G xs ds → Dx w G (.ref a) (.list ds)
  | tup {a : Addr} {xs : List V} {ds : List PyData} : G a = some (.tup xs) → DxAll w G xs ds → Dx w G (.ref a) (.tuple ds)
  | dct {a : Addr} {kvs : List Kvv} {ds : List (PyData × PyData)} : DF w G a kvs → DxAll w G (kvs.map fun x => x.2.1) (ds.map (·.1)) → DxAll w G (kvs.map fun x => x.2.2) (ds.map (·.2)) → Dx w G (.ref a) (.dict ds)
inductive DxAll (w : World) (G : Hp) : List V → List PyData → Prop
  | nil : DxAll w G [] []
  | cons {v : V} {vs : List V} {d : PyData} {ds : List PyData} : Dx w G v d → DxAll w G vs ds → DxAll w G (v :: vs) (d :: ds)
end
section
variable {w : World} {K : PySem.W.Frag} {G G' H : Hp}
mutual
theorem Dx.mono (e : Same G G') : ∀ {v : V} {d : PyData}, Dx w G v d → Dx w G' v d
  | _, _, .non => .non
  | _, _, .bl b => .bl b
  | _, _, .int i => .int i
  | _, _, .str x => .str x
  | _, _, .lst h t => .lst (e _ _ h) (DxAll.mono e t)
  | _, _, .tup h t => .tup (e _ _ h) (DxAll.mono e t)
  | _, _, .dct h t u => .dct (h.mono e) (DxAll.mono e t) (DxAll.mono e u)
theorem DxAll.mono (e : Same G G') : ∀ {vs : List V} {ds : List PyData}, DxAll w G vs ds → DxAll w G' vs ds
  | _, _, .nil => .nil
  | _, _, .cons h t => .cons (Dx.mono e h) (DxAll.mono e t)
end
mutual
/-- data without dicts, as the layer knew it -/
theorem Dx.of : ∀ {d : PyData} {v : V}, Dq K G v d → d.hasDict = false → Dx w G v d
  | .none, _, h, _ => by cases h; exact .non
  | .bool b, _, h, _ => by cases h; exact .bl b
  | .int i, _, h, _ => by cases h; exact .int i
  | .str x, _, h, _ => by cases h; exact .str x
  | .list ds, _, h, n => by
    cases h with
    | lst h t => exact .lst h (DxAll.of t (by simpa [PyData.hasDict] using n))
  | .tuple ds, _, h, n => by
    cases h with
    | tup h t => exact .tup h (DxAll.of t (by simpa [PyData.hasDict] using n))
  | .dict ds, _, h, n => by simp [PyData.hasDict] at n
theorem DxAll.of : ∀ {ds : List PyData} {vs : List V}, DqAll K G vs ds → PyData.hasDictAll ds = false → DxAll w G vs ds
  | [], _, h, _ => by cases h; exact .nil
  | d :: ds, _, h, n => by
    cases h with
    | cons a b =>
      simp only [PyData.hasDictAll, Bool.or_eq_false_iff] at n
      exact .cons (Dx.of a n.1) (DxAll.of b n.2)
end
theorem DxAll.append : ∀ {vs us : List V} {ds es : List PyData}, DxAll w G vs ds → DxAll w G us es → DxAll w G (vs ++ us) (ds ++ es)
  | _, _, _, _, .nil, t => t
  | _, _, _, _, .cons h r, t => .cons h (DxAll.append r t)
theorem DxAll.len : ∀ {vs : List V} {ds : List PyData}, DxAll w G vs ds → vs.length = ds.length
  | _, _, .nil => rfl
  | _, _, .cons _ t => by rw [List.length_cons, List.length_cons, DxAll.len t]
theorem DxAll.get : ∀ {vs : List V} {ds : List PyData} {i : Nat} {v : V}, DxAll w G vs ds → vs[i]? = some v → ∃ d, ds[i]? = some d ∧ Dx w G v d
  | _, _, _, _, .nil, e => by simp at e
  | _, _, 0, _, .cons h _, e => by simp at e; subst e; exact ⟨_, rfl, h⟩
  | _, _, i + 1, v, .cons _ t, e => by
    obtain ⟨d, h1, h2⟩ := DxAll.get (i := i) (v := v) t (by simpa using e)
    exact ⟨d, by simpa using h1, h2⟩
theorem DxAll.take : ∀ {vs : List V} {ds : List PyData} (n : Nat), DxAll w G vs ds → DxAll w G (vs.take n) (ds.take n)
  | _, _, 0, _ => .nil
  | _, _, _ + 1, .nil => .nil
  | _, _, n + 1, .cons h t => .cons h (DxAll.take n t)
theorem DxAll.drop : ∀ {vs : List V} {ds : List PyData} (n : Nat), DxAll w G vs ds → DxAll w G (vs.drop n) (ds.drop n)
  | _, _, 0, h => h
  | _, _, _ + 1, .nil => .nil
  | _, _, n + 1, .cons _ t => DxAll.drop n t
theorem DxAll.rev : ∀ {vs : List V} {ds : List PyData}, DxAll w G vs ds → DxAll w G vs.reverse ds.reverse
  | _, _, .nil => .nil
  | _, _, .cons h t => by
    rw [List.reverse_cons, List.reverse_cons]
    exact DxAll.append (DxAll.rev t) (.cons h .nil)
end
section
variable {X : Cx} {pins : List (Addr × Obj)} {σ : L2.St} {H : Hp} {s : Shared}
theorem ents_vals {w : World} {H : Hp} : ∀ {kvs : List Kvv} {es : List DictEntry}, Paired (EnV w H) kvs es → Vals (kvs.map fun x => x.2.1) (es.map (·.key)) ∧ Vals (kvs.map fun x => x.2.2) (es.map (·.val))
  | _, _, .nil => ⟨.nil, .nil⟩
  | _, _, .cons h t => ⟨.cons h.2.1 (ents_vals t).1, .cons h.2.2.2.2 (ents_vals t).2⟩
mutual
theorem Dx.reads (I : Inv X pins σ H s) : ∀ (d : PyData) (v : V) (u : Value), Dx X.w H v d → RelV v u → ∃ as, Reads s.heap u d as
  | .none, _, _, h, r => by cases h; cases r; exact ⟨_, Reads.none⟩
  | .bool b, _, _, h, r => by cases h; cases r; exact ⟨_, Reads.bool b⟩
  | .int i, _, _, h, r => by cases h; obtain ⟨t, rfl⟩ := r; exact ⟨_, Reads.int i t⟩
  | .str x, _, _, h, r => by cases h; obtain ⟨t, rfl⟩ := r; exact ⟨_, Reads.str x t⟩
  | .list ds, _, _, h, r => by
    cases h with
    | lst hs ha =>
      cases r
      obtain ⟨_, its, n, rv, ho⟩ := I.hok _ _ hs
      obtain ⟨as, hr⟩ := DxAll.reads I ds _ its ha rv
      exact ⟨_, Reads.list ho rfl rfl (by simpa using hr)⟩
  | .tuple ds, _, _, h, r => by
    cases h with
    | tup hs ha =>
      cases r
      obtain ⟨_, its, rv, o, ho, hc, n, hd⟩ := I.hok _ _ hs
      obtain ⟨as, hr⟩ := DxAll.reads I ds _ its ha rv
      exact ⟨_, Reads.tuple ho hc hd (by simpa using hr)⟩
  | .dict ds, _, _, h, r => by
    cases h with
    | dct hs hk hv =>
      cases r
      obtain ⟨od, u, es, ep, _, ho, hx, hdt, hm, hE⟩ := hs.raw I.hok
      obtain ⟨r1, r2⟩ := ents_vals hE.prd
      obtain ⟨as, q1⟩ := DxAll.readsK I ds _ _ hk r1
      obtain ⟨bs, q2⟩ := DxAll.readsV I ds _ _ hv r2
      exact ⟨_, Reads.dict ho hx.1 hdt q1 q2⟩
theorem DxAll.reads (I : Inv X pins σ H s) : ∀ (ds : List PyData) (vs : List V) (us : List Value), DxAll X.w H vs ds → Vals vs us → ∃ as, ReadsAll s.heap us ds as
  | [], _, _, h, r => by cases h; cases r; exact ⟨_, ReadsAll.nil⟩
  | d :: ds, _, _, h, r => by
    cases h with
    | cons h1 h2 =>
      cases r with
      | cons r1 r2 =>
        obtain ⟨as, q1⟩ := Dx.reads I d _ _ h1 r1
        obtain ⟨bs, q2⟩ := DxAll.reads I ds _ _ h2 r2
        exact ⟨_, ReadsAll.cons q1 q2⟩
theorem DxAll.readsK (I : Inv X pins σ H s) : ∀ (ds : List (PyData × PyData)) (vs : List V) (us : List Value), DxAll X.w H vs (ds.map (·.1)) → Vals vs us → ∃ as, ReadsAll s.heap us (ds.map (·.1)) as
  | [], _, _, h, r => by cases h; cases r; exact ⟨_, ReadsAll.nil⟩
  | (d, d') :: ds, _, _, h, r => by
    cases h with
    | cons h1 h2 =>
      cases r with
      | cons r1 r2 =>
        obtain ⟨as, q1⟩ := Dx.reads I d _ _ h1 r1
        obtain ⟨bs, q2⟩ := DxAll.readsK I ds _ _ h2 r2
        exact ⟨_, ReadsAll.cons q1 q2⟩
theorem DxAll.readsV (I : Inv X pins σ H s) : ∀ (ds : List (PyData × PyData)) (vs : List V) (us : List Value), DxAll X.w H vs (ds.map (·.2)) → Vals vs us → ∃ as, ReadsAll s.heap us (ds.map (·.2)) as
  | [], _, _, h, r => by cases h; cases r; exact ⟨_, ReadsAll.nil⟩
  | (d, d') :: ds, _, _, h, r => by
    cases h with
    | cons h1 h2 =>
      cases r with
      | cons r1 r2 =>
        obtain ⟨as, q1⟩ := Dx.reads I d' _ _ h1 r1
        obtain ⟨bs, q2⟩ := DxAll.readsV I ds _ _ h2 r2
        exact ⟨_, ReadsAll.cons q1 q2⟩
end
/-- what repr asks of a thing -/
def Shk (P : Program) (w : World) (h : Heap) (d : PyData) (u : Value) : Prop := ∃ bs, ReadAtMost h d.depth bs ∧ ReprK P w bs h d.depth u d.shown
def ShkAll (P : Program) (w : World) (h : Heap) (ds : List PyData) (us : List Value) : Prop := ∃ bs, ReadAtMost h (PyData.depthAll ds) bs ∧ ReprAllK P w bs h (PyData.depthAll ds) us (PyData.shownAll ds)
theorem shk_cons {P : Program} {w : World} {h : Heap} {d : PyData} {ds : List PyData} {u : Value} {us : List Value} (a : Shk P w h d u) (b : ShkAll P w h ds us) : ShkAll P w h (d :: ds) (u :: us) := by
  obtain ⟨b1, g1, k1⟩ := a
  obtain ⟨b2, g2, k2⟩ := b
  have le1 : d.depth ≤ PyData.depthAll (d :: ds) := by simp only [PyData.depthAll]; exact Nat.le_max_left _ _
  have le2 : PyData.depthAll ds ≤ PyData.depthAll (d :: ds) := by simp only [PyData.depthAll]; exact Nat.le_max_right _ _
  refine ⟨b1 ++ b2, fun c hc => ?_, ?_⟩
  · rcases List.mem_append.mp hc with hc | hc
    · obtain ⟨d', as', r', l⟩ := g1 c hc; exact ⟨d', as', r', Nat.le_trans l le1⟩
    · obtain ⟨d', as', r', l⟩ := g2 c hc; exact ⟨d', as', r', Nat.le_trans l le2⟩
  · rw [show PyData.shownAll (d :: ds) = d.shown :: PyData.shownAll ds by simp only [PyData.shownAll]]
    exact .cons ((k1.more fun c hc => List.mem_append_left b2 hc).level_le le1) (k2.more_le (fun c hc => List.mem_append_right b1 hc) le2)
mutual
theorem Dx.shk (I : Inv X pins σ H s) : ∀ (d : PyData) (v : V) (u : Value), Dx X.w H v d → RelV v u → d.showable = true → d.shown.length ≤ sizeLine → Shk X.prog X.w s.heap d u
  | .none, _, _, h, r, _, _ => by cases h; cases r; exact ⟨[], nofun, by simp only [PyData.shown]; exact .of_is ReprIs.none _ _ _⟩
  | .bool b, _, _, h, r, _, _ => by cases h; cases r; exact ⟨[], nofun, by simp only [PyData.shown]; exact .of_is (ReprIs.bool b) _ _ _⟩
  | .int i, _, _, h, r, hs, _ => by cases h; obtain ⟨t, rfl⟩ := r; exact ⟨[], nofun, by simp only [PyData.shown]; exact .of_is (ReprIs.int t (by simpa [PyData.showable] using hs)) _ _ _⟩
  | .str x, _, _, h, r, _, hz => by cases h; obtain ⟨t, rfl⟩ := r; exact ⟨[], nofun, by simp only [PyData.shown]; exact .of_is (ReprIs.str x t (by simpa only [PyData.shown] using hz)) _ _ _⟩
  | .list ds, v, u, h, r, hs, hz => by
    obtain ⟨as0, rd⟩ := Dx.reads I _ _ _ h r
    cases h with
    | lst hg ha =>
      cases r
      obtain ⟨_, its, n, rv, ho⟩ := I.hok _ _ hg
      simp only [PyData.shown] at hz
      obtain ⟨bs, hb, hk⟩ := DxAll.shk I ds _ its ha rv (by simpa [PyData.showable] using hs) fun t ht => Nat.le_trans (listText_mem_le ht) hz
      have hna := not_mem_of_deeper rd (by simp only [PyData.depth]; omega) hb
      refine ⟨_ :: bs, ReadAtMost.cons rd (Nat.le_refl _) (fun c hc => let ⟨d', as', r', l⟩ := hb c hc; ⟨d', as', r', by simp only [PyData.depth]; omega⟩), ?_⟩
      simp only [PyData.depth, PyData.shown]
      cases its with
      | nil =>
        cases rv; cases ha
        simp only [PyData.shownAll, listText_nil]
        exact ReprK.listEmpty ho rfl rfl
      | cons x l => exact ReprK.list ho rfl rfl hna (by simpa using hk.length_eq) (fun i y e => hk.item i y (by simpa using e))
  | .tuple ds, v, u, h, r, hs, hz => by
    obtain ⟨as0, rd⟩ := Dx.reads I _ _ _ h r
    cases h with
    | tup hg ha =>
      cases r
      obtain ⟨_, its, rv, o, ho, hc, n, hd⟩ := I.hok _ _ hg
      simp only [PyData.shown] at hz
      obtain ⟨bs, hb, hk⟩ := DxAll.shk I ds _ its ha rv (by simpa [PyData.showable] using hs) fun t ht => Nat.le_trans (tupleText_mem_le ht) hz
      have hna := not_mem_of_deeper rd (by simp only [PyData.depth]; omega) hb
      refine ⟨_ :: bs, ReadAtMost.cons rd (Nat.le_refl _) (fun c hc => let ⟨d', as', r', l⟩ := hb c hc; ⟨d', as', r', by simp only [PyData.depth]; omega⟩), ?_⟩
      simp only [PyData.depth, PyData.shown]
      exact ReprK.tuple ho hc hd hna (by simpa using hk)
  | .dict ds, v, u, h, r, hs, hz => by
    obtain ⟨as0, rd⟩ := Dx.reads I _ _ _ h r
    cases h with
    | dct hg hk hv =>
      cases r
      obtain ⟨od, u, es, ep, _, ho, hx, hdt, hm, hE⟩ := hg.raw I.hok
      obtain ⟨r1, r2⟩ := ents_vals hE.prd
      simp only [PyData.shown] at hz
      obtain ⟨s1, s2⟩ := PyData.showableKv_split ds (by simpa [PyData.showable] using hs)
      obtain ⟨b1, g1, k1⟩ := DxAll.shkK I ds _ _ hk r1 s1 fun t ht => let ⟨p, hp, hl⟩ := PyData.shownKv_key_le ds t ht; Nat.le_trans hl (Nat.le_trans (dictText_mem_le hp) hz)
      obtain ⟨b2, g2, k2⟩ := DxAll.shkV I ds _ _ hv r2 s2 fun t ht => let ⟨p, hp, hl⟩ := PyData.shownKv_val_le ds t ht; Nat.le_trans hl (Nat.le_trans (dictText_mem_le hp) hz)
      have hb : ReadAtMost s.heap (PyData.depthKv ds) (b1 ++ b2) := (g1.mono (PyData.depthAll_keys_le ds)).append (g2.mono (PyData.depthAll_vals_le ds))
      have hna := not_mem_of_deeper rd (by simp only [PyData.depth]; omega) hb
      refine ⟨_ :: (b1 ++ b2), ReadAtMost.cons rd (Nat.le_refl _) (fun c hc => let ⟨d', as', r', l⟩ := hb c hc; ⟨d', as', r', by simp only [PyData.depth]; omega⟩), ?_⟩
      simp only [PyData.depth, PyData.shown, PyData.shownKv_eq]
      exact ReprK.dict ho hx.1 hdt hm hna (ReprEntriesK.of_two es.toList _ _ (k1.more_le (fun c hc => List.mem_append_left b2 hc) (PyData.depthAll_keys_le ds)) (k2.more_le (fun c hc => List.mem_append_right b1 hc) (PyData.depthAll_vals_le ds)))
theorem DxAll.shk (I : Inv X pins σ H s) : ∀ (ds : List PyData) (vs : List V) (us : List Value), DxAll X.w H vs ds → Vals vs us → PyData.showableAll ds = true → (∀ t ∈ PyData.shownAll ds, t.length ≤ sizeLine) → ShkAll X.prog X.w s.heap ds us
  | [], _, _, h, r, _, _ => by cases h; cases r; exact ⟨[], nofun, by simp only [PyData.shownAll]; exact .nil⟩
  | d :: ds, _, _, h, r, hs, hz => by
    cases h with
    | cons h1 h2 =>
      cases r with
      | cons r1 r2 =>
        have e : d.showable = true ∧ PyData.showableAll ds = true := by simpa [PyData.showableAll] using hs
        simp only [PyData.shownAll, List.mem_cons] at hz
        exact shk_cons (Dx.shk I d _ _ h1 r1 e.1 (hz _ (.inl rfl))) (DxAll.shk I ds _ _ h2 r2 e.2 fun t ht => hz t (.inr ht))
theorem DxAll.shkK (I : Inv X pins σ H s) : ∀ (ds : List (PyData × PyData)) (vs : List V) (us : List Value), DxAll X.w H vs (ds.map (·.1)) → Vals vs us → PyData.showableAll (ds.map (·.1)) = true → (∀ t ∈ PyData.shownAll (ds.map (·.1)), t.length ≤ sizeLine) → ShkAll X.prog X.w s.heap (ds.map (·.1)) us
  | [], _, _, h, r, _, _ => by cases h; cases r; exact ⟨[], nofun, by simp only [List.map_nil, PyData.shownAll]; exact .nil⟩
  | (d, d') :: ds, _, _, h, r, hs, hz => by
    cases h with
    | cons h1 h2 =>
      cases r with
      | cons r1 r2 =>
        simp only [List.map_cons, PyData.showableAll, Bool.and_eq_true] at hs
        simp only [List.map_cons, PyData.shownAll, List.mem_cons] at hz
        exact shk_cons (Dx.shk I d _ _ h1 r1 hs.1 (hz _ (.inl rfl))) (DxAll.shkK I ds _ _ h2 r2 hs.2 fun t ht => hz t (.inr ht))
theorem DxAll.shkV (I : Inv X pins σ H s) : ∀ (ds : List (PyData × PyData)) (vs : List V) (us : List Value), DxAll X.w H vs (ds.map (·.2)) → Vals vs us → PyData.showableAll (ds.map (·.2)) = true → (∀ t ∈ PyData.shownAll (ds.map (·.2)), t.length ≤ sizeLine) → ShkAll X.prog X.w s.heap (ds.map (·.2)) us
  | [], _, _, h, r, _, _ => by cases h; cases r; exact ⟨[], nofun, by simp only [List.map_nil, PyData.shownAll]; exact .nil⟩
  | (d, d') :: ds, _, _, h, r, hs, hz => by
    cases h with
    | cons h1 h2 =>
      cases r with
      | cons r1 r2 =>
        simp only [List.map_cons, PyData.showableAll, Bool.and_eq_true] at hs
        simp only [List.map_cons, PyData.shownAll, List.mem_cons] at hz
        exact shk_cons (Dx.shk I d' _ _ h1 r1 hs.1 (hz _ (.inl rfl))) (DxAll.shkV I ds _ _ h2 r2 hs.2 fun t ht => hz t (.inr ht))
end
def rReprX (w : World) : List V → Hp → VK → Prop := fun xs H Q => ∃ (v : V) (d : PyData), xs = [v] ∧ Dx w H v d ∧ d.showable = true ∧ d.depth ≤ 100 ∧ d.shown.length ≤ sizeLine ∧ Q (.str d.shown) H
theorem cr_reprX {X : Cx} (hg : X.A.guards = some []) (hu : X.A.units + 111 < cLine) : CallR X (.builtin "repr") (rReprX X.w) := by
  intro pins s σ H xs us Q I r h
  obtain ⟨v, d, rfl, h, hs, hd, hz, q⟩ := h
  obtain ⟨u, rfl, r0⟩ := vals1 r
  have end' : ∀ (h' : Heap) (t : Tok) (tk : Nat), (∀ b o, s.heap.get? b = some o → h'.get? b = some o) → EP X pins σ Q (.str d.shown t) { s with heap := h', toks := tk } := fun h' t tk hk => ⟨.str _, H, I.kept hk, ⟨_, rfl⟩, q⟩
  obtain ⟨as0, rd⟩ := Dx.reads I _ _ _ h r0
  cases h with
  | non => cases r0; exact PySem.P.repr_of_none ⟨.str _, H, I.tok _, ⟨_, rfl⟩, q⟩
  | bl b => cases r0; exact PySem.P.repr_of_bool ⟨.str _, H, I.tok _, ⟨_, rfl⟩, q⟩
  | int i =>
    obtain ⟨t, rfl⟩ := r0
    exact PySem.P.repr_of_int (by simpa [PyData.showable] using hs) ⟨.str _, H, I.tok _, ⟨_, rfl⟩, q⟩
  | str x =>
    obtain ⟨t, rfl⟩ := r0
    exact PySem.P.repr_of_str ⟨.str _, H, I.tok _, ⟨_, rfl⟩, q⟩ hz
  | @lst a ys ds hg2 ha =>
    cases r0
    obtain ⟨_, its, n, rv, ho⟩ := I.hok _ _ hg2
    simp only [PyData.shown] at hz end'
    simp only [PyData.depth] at hd
    obtain ⟨bs, hb, hk⟩ := DxAll.shk I ds _ its ha rv (by simpa [PyData.showable] using hs) fun t ht => Nat.le_trans (listText_mem_le ht) hz
    have hna := not_mem_of_deeper rd (by simp only [PyData.depth]; omega) hb
    refine call_repr_slot (T := "list") (by omega) ⟨_, ho, rfl⟩ F.slot_list_repr.toG ?_
    cases its with
    | nil =>
      cases rv; cases ha
      simp only [PyData.shownAll, listText_nil] at end'
      exact call_list_repr_empty ⟨_, ho, rfl⟩ ho rfl ⟨_, _, rfl, end' s.heap _ _ fun _ _ e => e⟩
    | cons x l =>
      exact call_list_reprK (d := PyData.depthAll ds) ho rfl rfl hna (by simpa using hk.length_eq) (fun i y e => hk.item i y (by simpa using e)) hg (fun b _ => Clear.nil b) (by show X.A.units + 1 + (_ + 1) < cLine; omega) (fun _ _ e => e) (fun h' t tk e => ⟨_, _, rfl, end' h' t tk e⟩) hz
  | @tup a ys ds hg2 ha =>
    cases r0
    obtain ⟨_, its, rv, o, ho, hc, n, hd2⟩ := I.hok _ _ hg2
    simp only [PyData.shown] at hz end'
    simp only [PyData.depth] at hd
    obtain ⟨bs, hb, hk⟩ := DxAll.shk I ds _ its ha rv (by simpa [PyData.showable] using hs) fun t ht => Nat.le_trans (tupleText_mem_le ht) hz
    have hna := not_mem_of_deeper rd (by simp only [PyData.depth]; omega) hb
    exact call_repr_slot (T := "tuple") (by omega) ⟨_, ho, hc⟩ F.slot_tuple_repr (call_tuple_reprK (d := PyData.depthAll ds) ho hc hd2 hna (by simpa using hk) hg (fun b _ => Clear.nil b) (by show X.A.units + 1 + (_ + 1) < cLine; omega) (fun _ _ e => e) (fun h' t tk e => ⟨_, _, rfl, end' h' t tk e⟩) hz)
  | @dct a kvs ds hg2 hk hv =>
    cases r0
    obtain ⟨od, u, es, ep, _, ho, hx, hdt, hm, hE⟩ := hg2.raw I.hok
    obtain ⟨r1, r2⟩ := ents_vals hE.prd
    simp only [PyData.shown] at hz end'
    simp only [PyData.depth] at hd
    obtain ⟨s1, s2⟩ := PyData.showableKv_split ds (by simpa [PyData.showable] using hs)
    obtain ⟨b1, g1, k1⟩ := DxAll.shkK I ds _ _ hk r1 s1 fun t ht => let ⟨p, hp, hl⟩ := PyData.shownKv_key_le ds t ht; Nat.le_trans hl (Nat.le_trans (dictText_mem_le hp) hz)
    obtain ⟨b2, g2, k2⟩ := DxAll.shkV I ds _ _ hv r2 s2 fun t ht => let ⟨p, hp, hl⟩ := PyData.shownKv_val_le ds t ht; Nat.le_trans hl (Nat.le_trans (dictText_mem_le hp) hz)
    have hb : ReadAtMost s.heap (PyData.depthKv ds) (b1 ++ b2) := (g1.mono (PyData.depthAll_keys_le ds)).append (g2.mono (PyData.depthAll_vals_le ds))
    have hna := not_mem_of_deeper rd (by simp only [PyData.depth]; omega) hb
    rw [PyData.shownKv_eq] at hz
    simp only [PyData.shownKv_eq] at end'
    exact call_repr_slot (T := "dict") (by omega) ⟨_, ho, hx.1⟩ F.slot_dict_repr (call_dict_reprK (d := PyData.depthKv ds) ho hx.1 hdt hm hna (ReprEntriesK.of_two es.toList _ _ (k1.more_le (fun c hc => List.mem_append_left b2 hc) (PyData.depthAll_keys_le ds)) (k2.more_le (fun c hc => List.mem_append_right b1 hc) (PyData.depthAll_vals_le ds))) hg (fun b _ => Clear.nil b) (by show X.A.units + 1 + (_ + 1) < cLine; omega) (fun _ _ e => e) (fun h' t tk e => ⟨_, _, rfl, end' h' t tk e⟩) hz)
/-- isinstance of such a thing -/
theorem Dx.tyx {w : World} {K : PySem.W.Frag} {H : Hp} {v : V} {d : PyData} (h : Dx w H v d) (n : ∀ ds, d ≠ .dict ds) : TyX K H v (.type (tyN d)) := by
  cases h with
  | non => exact .base .non
  | bl b => exact .base (.bl b)
  | int i => exact .base (.int i)
  | str x => exact .base (.str x)
  | lst h _ => exact .base (.lst h)
  | tup h _ => exact .base (.tup h)
  | dct h _ _ => exact absurd rfl (n _)
def rIsiX (w : World) : List V → Hp → VK → Prop := fun xs H Q => ∃ (v : V) (d : PyData) (T : String) (b : Bool), xs = [v, .ty T] ∧ Dx w H v d ∧ kitB (tyN d) T = some b ∧ Q (.bl b) H
theorem call_isiX {X : Cx} : CallR X (.builtin "isinstance") (rIsiX X.w) := by
  intro pins s σ H xs us Q I r h
  obtain ⟨v, d, T, b, rfl, h, hk, q⟩ := h
  by_cases c : ∃ ds, d = .dict ds
  · obtain ⟨ds, rfl⟩ := c
    cases h with
    | dct hg _ _ => exact call_isiF pins s σ H _ us Q I r ⟨_, _, T, b, rfl, hg, hk, q⟩
  · exact call_isi pins s σ H _ us Q I r ⟨v, .ty T, .type (tyN d), .type T, b, rfl, .ty T, h.tyx fun ds e => c ⟨ds, e⟩, kit_ty hk, q⟩
end
end My

set_option linter.all false
namespace My
open PySem PySem.Spec PyProof.Rows L2
/-! ### comprehensions by what each turn keeps -/
theorem lc_gen {J : It} {n : Nat} {G : Hp → Prop} {Y : Nat → Hp → V → Hp → Prop} (w : Walk J n G Y) {g : TG} {tt : TT} {te : TE} {vs : List Nat} {σ : L2.St} {H1 : Hp} {D : Addr} {Qd : Hp → Prop} (f : Nat → Bool) (v : Nat → V) (nD : H1 D = none) (hn : n ≤ sizeLine) (hG : ∀ H, Same H1 H → G H)
    (hs : ∀ i x H H', i < n → Same H1 H → Y i H x H' → ∀ (Q : VK) (R : Hp → Prop), (f i = true → ∀ H4, Same H H4 → Q (v i) H4) → (f i = false → ∀ H4, Same H H4 → R H4) → g x (wipe σ vs) H' fun σ2 H2 => wipe σ2 vs = wipe σ vs ∧ tt σ2 H2 fun b H3 => if b = true then te σ2 H3 Q else R H3)
    (hd : ∀ H, Same H1 H → H D = some (.lst (((List.range n).filter f).map v)) → Qd H) :
    ∃ W : Nat → Nat → Hp → Prop, (∃ m, W 0 m (upd H1 D (.lst []))) ∧ ∀ i m H, W i m H →
      (J.stop i H ∧ Qd H) ∨ (J.go i H ∧ ∃ Nx : Hp → Prop, (∀ H', Nx H' → ∃ m', m' < m ∧ W (i + 1) m' H') ∧ ∀ x H', J.yld i H x H' → g x (wipe σ vs) H' fun σ2 H2 => wipe σ2 vs = wipe σ vs ∧ tt σ2 H2 fun b H3 =>
        if b = true then te σ2 H3 fun y H4 => ∃ acc, H4 D = some (.lst acc) ∧ acc.length < sizeLine ∧ Nx (upd H4 D (.lst (acc ++ [y]))) else Nx H3) := by
  refine lc_it w (fun i H => Same H1 H ∧ H D = some (.lst (((List.range i).filter f).map v))) ⟨Same.upd nD, upd_same⟩ (fun i H _ z => hG H z.1) (fun i x H H' hi p y => ?_) fun H z => hd H z.1 z.2
  refine hs i x H H' hi p.1 y _ _ (fun hf H4 s4 => ?_) fun hf H4 s4 => ?_
  · refine ⟨_, s4 _ _ p.2, ?_, ?_, ?_⟩
    · have h1 := List.length_filter_le f (List.range i)
      rw [List.length_range] at h1
      rw [List.length_map]; omega
    · intro b o hb
      rw [upd_ne (ne_of_none hb nD)]
      exact s4 _ _ (p.1 b o hb)
    · rw [upd_same, List.range_succ, List.filter_append, List.map_append]
      simp [hf]
  · refine ⟨p.1.trans s4, ?_⟩
    rw [s4 _ _ p.2, List.range_succ, List.filter_append, List.map_append]
    simp [hf]
theorem walk_two {K : PySem.W.Frag} {a b : Addr} {us ys : List V} {n : Nat} (hn : n = min us.length ys.length) : Walk (RZ.ItzT K a b) n (fun H => SqT K H a us ∧ SqT K H b ys) (YPair (fun i => us[i]?) (fun i => ys[i]?)) := by
  subst hn
  refine ⟨fun i H lt q => ⟨us, ys, us[i]'(by omega), ys[i]'(by omega), q.1, q.2, List.getElem?_eq_getElem (by omega), List.getElem?_eq_getElem (by omega)⟩, fun H q => ⟨us, ys, q.1, q.2, by omega⟩, fun i H v H' lt q y => ?_⟩
  obtain ⟨T, x, z, h1, h2, h3, h4, h5⟩ := y
  exact ⟨T, x, z, h1, h2, h3, h4 us q.1, h5 ys q.2⟩
theorem range_all (n : Nat) (f : Nat → Bool) : (List.range n).filter (fun _ => true) = List.range n := by simp
/-- all([..]) of truths -/
theorem bools_map (n : Nat) (f : Nat → Bool) : ((List.range n).map fun i => V.bl (f i)) = ((List.range n).map f).map V.bl := by rw [List.map_map]; rfl
theorem all_range {α : Type} (l : List α) (f : Nat → Bool) (p : α → Bool) (h : ∀ i a, l[i]? = some a → f i = p a) : ((List.range l.length).map f).all id = l.all p := by
  induction l generalizing f with
  | nil => rfl
  | cons a r ih =>
    rw [List.length_cons, List.range_succ_eq_map, List.map_cons, List.all_cons, List.all_cons, List.map_map, ih (f ∘ Nat.succ) fun i b e => h (i + 1) b (by simpa using e), h 0 a rfl]
    rfl
theorem filt_nil (n : Nat) (f : Nat → Bool) (v : Nat → V) : (((List.range n).filter f).map v = []) ↔ ∀ i, i < n → f i = false := by
  rw [List.map_eq_nil_iff, List.filter_eq_nil_iff]
  constructor
  · intro h i hi
    have := h i (List.mem_range.mpr hi)
    simpa using this
  · intro h i hi
    have := h i (List.mem_range.mp hi)
    simp [this]
/-! ### pairs (digit, name) in their order -/
def ltP (a b : Int × Str) : Bool := if a.1 = b.1 then decide (a.2.cps.toList < b.2.cps.toList) else decide (a.1 < b.1)
section
variable {X : Cx}
theorem pair_at {pins : List (Addr × Obj)} {σ : L2.St} {H : Hp} {s : Shared} (I : Inv X pins σ H s) {a : Addr} {q : Int × Str} (h : H a = some (.tup [.int q.1, .str q.2])) : ∃ t u, s.heap.IsTuple a #[.int q.1 t, .str q.2 u] := by
  obtain ⟨_, its, rv, o, ho, hc, n, hd⟩ := I.hok _ _ h
  obtain ⟨x1, x2, rfl, r1, r2⟩ := vals2 rv
  obtain ⟨t, rfl⟩ := r1
  obtain ⟨u, rfl⟩ := r2
  exact ⟨t, u, o, ho, hc, n, hd⟩
def rCmpP (f : Int × Str → Int × Str → Bool) : R2 := fun x y H Q => ∃ (a b : Addr) (p q : Int × Str), x = .ref a ∧ y = .ref b ∧ H a = some (.tup [.int p.1, .str p.2]) ∧ H b = some (.tup [.int q.1, .str q.2]) ∧ Q (.bl (f p q)) H
theorem eq_at {s : Shared} {A : Around} (p q : Int × Str) (t u t' u' : Tok) : ∀ j (h1 : j < (#[Value.int p.1 t, Value.str p.2 u] : Array Value).size) (h2 : j < (#[Value.int q.1 t', Value.str q.2 u'] : Array Value).size),
    SeqAt.EqAt A s (#[Value.int p.1 t, Value.str p.2 u] : Array Value)[j] (#[Value.int q.1 t', Value.str q.2 u'] : Array Value)[j] (if j = 0 then decide (p.1 = q.1) else decide (p.2 = q.2)) := by
  intro j h1 h2
  have hj : j = 0 ∨ j = 1 := by simp at h1; omega
  rcases hj with rfl | rfl
  · have e : (p.1 == q.1) = decide (p.1 = q.1) := by by_cases c : p.1 = q.1 <;> simp [c]
    show SeqAt.EqAt A s (.int p.1 t) (.int q.1 t') (decide (p.1 = q.1))
    rw [← e]; exact SeqAt.EqAt.int_int _ _ _ _
  · have e : (p.2 == q.2) = decide (p.2 = q.2) := by by_cases c : p.2 = q.2 <;> simp [c]
    show SeqAt.EqAt A s (.str p.2 u) (.str q.2 u') (decide (p.2 = q.2))
    rw [← e]; exact SeqAt.EqAt.str_str _ _ _ _
theorem op_ltP (hu : X.A.units < cLine) : OpR X (compareOp .Lt) (rCmpP ltP) := by
  intro pins s σ H x y v u Q I rx ry h
  obtain ⟨a, b, p, q, rfl, rfl, ha, hb, k⟩ := h
  cases rx
  cases ry
  obtain ⟨t, u, p1⟩ := pair_at I ha
  obtain ⟨t', u', p2⟩ := pair_at I hb
  have R := Ob.RcOp.tuples_lt (A := X.A) (s := s) (r := fun j => if j = 0 then decide (p.1 < q.1) else decide (p.2.cps.toList < q.2.cps.toList)) p1 p2 hu (eq_at p q t u t' u') (fun j h1 h2 _ => by
    have hj : j = 0 ∨ j = 1 := by simp at h1; omega
    rcases hj with rfl | rfl
    · exact Ob.RcOp.lt_int _ _ _ _
    · exact fun prog w E Q h => PyProof.Rows.lt_str h)
  have e : Ob.lexAt (fun j => if j = 0 then decide (p.1 = q.1) else decide (p.2 = q.2)) (fun j => if j = 0 then decide (p.1 < q.1) else decide (p.2.cps.toList < q.2.cps.toList)) (decide ((#[Value.int p.1 t, Value.str p.2 u] : Array Value).size < (#[Value.int q.1 t', Value.str q.2 u'] : Array Value).size)) 0 (min (#[Value.int p.1 t, Value.str p.2 u] : Array Value).size (#[Value.int q.1 t', Value.str q.2 u'] : Array Value).size) = ltP p q := by
    show Ob.lexAt _ _ (decide (2 < 2)) 0 2 = _
    rw [Ob.lexAt_succ, Ob.lexAt_succ, Ob.lexAt_zero]
    unfold ltP
    by_cases c : p.1 = q.1
    · by_cases c2 : p.2 = q.2
      · simp [c, c2]
      · simp [c, c2]
    · simp [c]
  rw [e] at R
  exact R X.prog X.w X.xe (EP X pins σ Q) ⟨.bl _, H, I, rfl, k⟩
theorem op_geP (hu : X.A.units < cLine) : OpR X (compareOp .GtE) (rCmpP fun p q => !ltP p q) := by
  intro pins s σ H x y v u Q I rx ry h
  obtain ⟨a, b, p, q, rfl, rfl, ha, hb, k⟩ := h
  cases rx
  cases ry
  obtain ⟨t, u, p1⟩ := pair_at I ha
  obtain ⟨t', u', p2⟩ := pair_at I hb
  have R := Ob.RcOp.tuples_ge (A := X.A) (s := s) (r := fun j => if j = 0 then decide (q.1 ≤ p.1) else !decide (p.2.cps.toList < q.2.cps.toList)) p1 p2 hu (eq_at p q t u t' u') (fun j h1 h2 _ => by
    have hj : j = 0 ∨ j = 1 := by simp at h1; omega
    rcases hj with rfl | rfl
    · exact Ob.RcOp.ge_int _ _ _ _
    · exact fun prog w E Q h => PySem.P.ge_str h)
  have e : Ob.lexAt (fun j => if j = 0 then decide (p.1 = q.1) else decide (p.2 = q.2)) (fun j => if j = 0 then decide (q.1 ≤ p.1) else !decide (p.2.cps.toList < q.2.cps.toList)) (decide ((#[Value.int p.1 t, Value.str p.2 u] : Array Value).size ≥ (#[Value.int q.1 t', Value.str q.2 u'] : Array Value).size)) 0 (min (#[Value.int p.1 t, Value.str p.2 u] : Array Value).size (#[Value.int q.1 t', Value.str q.2 u'] : Array Value).size) = !ltP p q := by
    show Ob.lexAt _ _ (decide (2 ≥ 2)) 0 2 = _
    rw [Ob.lexAt_succ, Ob.lexAt_succ, Ob.lexAt_zero]
    unfold ltP
    by_cases c : p.1 = q.1
    · by_cases c2 : p.2 = q.2
      · simp [c, c2, List.lt_irrefl]
      · simp [c, c2]
    · simp only [c, decide_false, if_neg, if_false, Bool.false_eq_true, ite_false, if_true, ite_true]
      by_cases c3 : p.1 < q.1
      · simp [c3]
      · have : q.1 ≤ p.1 := by omega
        simp [c3, this]
  rw [e] at R
  exact R X.prog X.w X.xe (EP X pins σ Q) ⟨.bl _, H, I, rfl, k⟩
end
end My

set_option linter.all false
namespace My
open PySem PySem.Spec PyProof.Rows L2
/-! ### one of some; lowest terms -/
abbrev sOneOf : Stmt := topS 22
abbrev sLow : Stmt := topS 25
section
variable {X : Cx}
theorem ix_ls : IxR X (fun x y H Q => rIxL X.K x y H Q ∨ rIxS x y H Q) := fun value slice pins s σ H x y v u Q I r1 r2 h e => h.elim (fun h => ix_list value slice pins s σ H x y v u Q I r1 r2 h e) fun h => ix_str value slice pins s σ H x y v u Q I r1 r2 h e
theorem call_lenLS : CallR X (.builtin "len") (fun xs H Q => (∃ p ys, xs = [.ref p] ∧ SqL X.K H p ys ∧ Q (.int ys.length) H) ∨ ∃ z, xs = [.str z] ∧ z.length ≤ sizeLine ∧ Q (.int z.length) H) := fun pins s σ H xs us Q I r h => h.elim
  (fun ⟨p, ys, e, q, k⟩ => call_len_seq pins s σ H xs us Q I r ⟨p, ys, e, .inl q, k⟩) fun ⟨z, e, l, k⟩ => call_len_str pins s σ H xs us Q I r ⟨z, e, l, k⟩
end
def spOneOf : Sp := fun vs H Q _ => ∃ (p c : Addr) (t : Nat) (x : V), vs = [.ref p, x] ∧ PenD H p c t ∧ t < 2 ^ 29 ∧
  ((∃ (a : Addr) (xs : List V), x = .ref a ∧ a ≠ p ∧ H a = some (.lst xs) ∧ xs ≠ [] ∧ xs.length ≤ 1000 ∧ ∀ v H', v ∈ xs → But p H H' → PenD H' p c (t + 1) → Q v H') ∨
   ∃ z : Str, x = .str z ∧ 1 ≤ z.length ∧ z.length ≤ 1000 ∧ ∀ ch H', ch ∈ z.cps.toList → But p H H' → PenD H' p c (t + 1) → Q (.str ⟨#[ch]⟩) H')
def gL (a b : Int) : Int := ((Nat.gcd b.natAbs a.natAbs : Nat) : Int)
def spLow : Sp := fun vs H Q _ => ∃ a b : Int, vs = [.int a, .int b] ∧ 0 < b ∧ b.natAbs < 2 ^ 8000 ∧ ∀ q, H q = none → Q (.ref q) (upd H q (.tup [.int (a / gL a b), .int (b / gL a b)]))
theorem at_mem {α : Type} {xs : List α} {i : Int} (h0 : 0 ≤ i) (h1 : i < xs.length) : ∃ v ∈ xs, atI xs i = some v := by
  obtain ⟨j, rfl⟩ : ∃ j : Nat, i = (j : Int) := ⟨i.toNat, by omega⟩
  have hj : j < xs.length := by omega
  exact ⟨xs[j], List.getElem_mem hj, atI_nat (List.getElem?_eq_getElem hj)⟩
theorem gcd_step (x y : Nat) : Nat.gcd y (x % y) = Nat.gcd x y := by
  rw [Nat.gcd_comm x y, Nat.gcd_rec y x, Nat.gcd_comm]
section
variable {P : Program} {w : World} {K : PySem.W.Frag} {mg : Str → Option Value} {base : Heap}
theorem scOneOf : FnScope ["pen", "some"] ["pen", "some"] (defScope sOneOf) := ⟨rfl, rfl, rfl, by decide +kernel, rfl, by decide +kernel, by decide +kernel⟩
theorem scLow : FnScope ["top", "below", "one", "other"] ["top", "below"] (defScope sLow) := ⟨rfl, rfl, rfl, by decide +kernel, rfl, by decide +kernel, by decide +kernel⟩
theorem ok_oneof {f fT : Addr} {fd fdT : FuncData} (F : Fun K "_law_one_of" "_law_one_of" sOneOf f fd) (ml : mg "len" = none)
    (FT : Fun K "_law_draw" "_law_draw" sDraw fT fdT) (GT : FnOk P w K mg base CX0 2 fT fdT ["pen", "many"] spDraw) (bT : Binds K fdT ["pen", "many"] []) (gT : mg "_law_draw" = some (.ref fT)) :
    FnOk P w K mg base CX0 3 f fd ["pen", "some"] spOneOf := by
  refine F.ok scOneOf (fun vs H Q E h => ?_) (fun cdv A outer s H vs Q E hr h => ?_)
  · obtain ⟨p, c, t, x, rfl, _⟩ := h
    rfl
  · obtain ⟨p, c, t, x, rfl, C, tt, h⟩ := h
    have hr2 := hr
    refine ⟨_, (pss_one (ps_ret (pe_ix ix_ls (pv 1) (pe_call GT hr2 (by rfl) gT FT.kp bT .nil pass0 (pa_cons (pv 0) (pa_cons (pe_callB call_lenLS (by rfl) ml PySem.boot_len (pa_cons (pv 1) pa_nil)) pa_nil))) (fun _ _ => rfl)))), ?_⟩
    refine ⟨_, rfl, _, rfl, _, rfl, ?_⟩
    rcases h with ⟨a, xs, rfl, ap, ha, ne, l, k⟩ | ⟨z, rfl, z1, z2, k⟩
    · have l0 := List.length_pos_iff.mpr ne
      refine .inl ⟨a, xs, rfl, SqL.of ha, p, c, _, t, rfl, by omega, Nat.lt_of_le_of_lt (show ((xs.length : Int)).natAbs ≤ 1000 by omega) (by decide), C, tt, fun i H1 i0 i1 b1 C1 => ?_⟩
      obtain ⟨v, vin, hv⟩ := at_mem i0 i1
      exact .inl ⟨a, xs, _, v, rfl, rfl, SqL.of (b1 _ _ ap ha), hv, k v H1 vin b1 C1⟩
    · refine .inr ⟨z, rfl, by rw [sizeLine_eq]; omega, p, c, _, t, rfl, by omega, Nat.lt_of_le_of_lt (show ((z.length : Int)).natAbs ≤ 1000 by omega) (by decide), C, tt, fun i H1 i0 i1 b1 C1 => ?_⟩
      have zl : z.cps.toList.length = z.length := by rw [Array.length_toList]; rfl
      obtain ⟨ch, cin, hc⟩ := at_mem (xs := z.cps.toList) i0 (by rw [zl]; exact i1)
      exact .inr ⟨z, _, ch, rfl, rfl, by rw [sizeLine_eq]; omega, hc, k ch H1 cin b1 C1⟩
theorem ok_low {f : Addr} {fd : FuncData} (F : Fun K "_law_lowest" "_law_lowest" sLow f fd) (T : TxD mg) : FnOk P w K mg base CX0 1 f fd ["top", "below"] spLow := by
  refine F.ok scLow (fun vs H Q E h => ?_) (fun cdv A outer s H vs Q E hr h => ?_)
  · obtain ⟨a, b, rfl, _⟩ := h
    rfl
  · obtain ⟨a, b, rfl, b0, bb, k⟩ := h
    refine ⟨_, (pss_cons (ps_par (i := 2) (j := 3) (by rfl) scLow.nd rfl rfl (by decide) rfl rfl (pa_cons (pv 1) (pa_cons (pe_callB call_abs (by rfl) T.abs boot_abs (pa_cons (pv 0) pa_nil)) pa_nil)) (by rfl))
      (pss_cons (ps_while PassesOwn.never (pt_cmpR op_ne (pv 3) pe_int (nomark _)) (pss_one (ps_par (i := 2) (j := 3) (by rfl) scLow.nd rfl rfl (by decide) rfl rfl (pa_cons (pv 3) (pa_cons (pe_op op_mod (pv 2) (pv 3)) pa_nil)) (by rfl))))
      (pss_one (ps_ret (pe_tup (pa_cons (pe_op op_fdivW (pv 0) (pv 2)) (pa_cons (pe_op op_fdivW (pv 1) (pv 2)) pa_nil))))))), ?_⟩
    refine ⟨_, rfl, _, rfl, a, rfl, _, _, rfl, ?_⟩
    refine while_by (fun σ H2 => ∃ x y : Nat, σ = [some (.int a), some (.int b), some (.int (x : Int)), some (.int (y : Int))] ∧ H2 = H ∧ Nat.gcd x y = Nat.gcd b.natAbs a.natAbs) (fun σ _ => match σ with | [_, _, _, some (.int y)] => y.natAbs | _ => 0) ?_ ?_ ?_
    · refine ⟨b.natAbs, a.natAbs, ?_, rfl, rfl⟩
      have e1 : ((b.natAbs : Nat) : Int) = b := by omega
      have e2 : ((a.natAbs : Nat) : Int) = if a < 0 then -a else a := by split <;> omega
      rw [e1, e2]; rfl
    · rintro σ H2 ⟨x, y, rfl, rfl, hg⟩
      refine ⟨_, rfl, rfl, _, rfl, ?_⟩
      by_cases hy : y = 0
      · refine ifF (by rw [hy]; rfl) ?_
        subst hy
        have hx : x = Nat.gcd b.natAbs a.natAbs := by rw [← hg, Nat.gcd_zero_right]
        have g0 : 0 < x := by rw [hx]; exact Nat.gcd_pos_of_pos_left _ (by omega)
        have gb : x ≤ b.natAbs := by rw [hx]; exact Nat.le_of_dvd (by omega) (Nat.gcd_dvd_left _ _)
        have wd : ∀ z : Int, CDivW z (x : Int) := fun z => ⟨by omega, log_small (Nat.lt_of_le_of_lt (show ((x : Int)).natAbs ≤ b.natAbs by omega) bb) (by omega)⟩
        have e : gL a b = (x : Int) := by unfold gL; rw [hx]
        refine ⟨_, rfl, _, rfl, _, _, rfl, rfl, wd _, _, rfl, _, rfl, _, _, rfl, rfl, wd _, (by show 2 ≤ sizeLine; decide), fun q hq => ?_⟩
        have kq := k q hq
        rw [e] at kq
        exact kq
      · refine ifT (by
          rw [decide_eq_false]
          · rfl
          · intro z
            have := V.int.inj z
            omega) ?_
        have y0 : (0 : Int) < (y : Int) := by omega
        refine ⟨_, rfl, _, rfl, _, rfl, _, _, rfl, rfl, y0, _, _, rfl, ⟨y, x % y, ?_, rfl, by rw [gcd_step, hg]⟩, ?_⟩
        · rw [Int.natCast_emod]; rfl
        · show ((x : Int) % (y : Int)).natAbs < ((y : Int)).natAbs
          have := Nat.mod_lt x (Nat.pos_of_ne_zero hy)
          omega
    · intro σ H2 Q1 Q2 m h
      obtain ⟨v, e, h1, b1, e2, h2⟩ := h
      exact ⟨v, e, h1, b1, e2, m _ _ h2⟩
end
end My

set_option linter.all false
namespace My
open PySem PySem.Spec PyProof.Rows L2
/-! ### drawn names -/
abbrev sSome : Stmt := topS 23
def chC (c : Nat) : Str := ⟨#[c]⟩
def smallS : Str := "abcdefghijklmnopqrstuvwxyz"
theorem small_tl : smallS.cps.toList = (List.range 26).map (97 + ·) := by decide +kernel
theorem small_at {i : Nat} (h : i < 26) : (smallS.cps[i]?).getD 0 = 97 + i := by
  rw [← Array.getElem?_toList, small_tl, List.getElem?_map, List.getElem?_range h]; rfl
def repW (k : Nat) (c : Nat) : Str := ofL (List.replicate k (tl (chC c))).flatten
theorem tl_repW (k c : Nat) : tl (repW k c) = List.replicate k c := by
  show (List.replicate k [c]).flatten = _
  induction k with
  | zero => rfl
  | succ k ih => rw [List.replicate_succ, List.flatten_cons, ih]; rfl
theorem repW_ok {k c : Nat} (k1 : 1 ≤ k) (k8 : k ≤ 8) (h0 : 97 ≤ c) (h1 : c ≤ 122) : NameOk (repW k c) := by
  refine ⟨fun x hx => ?_, ?_, ?_⟩
  · rw [tl_repW] at hx
    rw [(List.mem_replicate.mp hx).2]; exact ⟨h0, h1⟩
  · rw [len_tl, tl_repW, List.length_replicate]; exact k1
  · rw [len_tl, tl_repW, List.length_replicate]; exact k8
theorem repW_inj {k c d : Nat} (k1 : 1 ≤ k) (h : repW k c = repW k d) : c = d := by
  have := congrArg tl h
  rw [tl_repW, tl_repW] at this
  have h2 := congrArg List.head? this
  rw [List.head?_replicate, List.head?_replicate, if_neg (by omega), if_neg (by omega)] at h2
  exact Option.some.inj h2
theorem join_cs (cs : List Nat) : tl (Txt.join "" (cs.map chC)) = cs := by
  rw [join_nil, List.map_map]
  induction cs with
  | nil => rfl
  | cons c r ih => rw [List.map_cons, List.flatten_cons, ih]; rfl
theorem word_ok {cs : List Nat} (h : ∀ c ∈ cs, 97 ≤ c ∧ c ≤ 122) (l1 : 1 ≤ cs.length) (l8 : cs.length ≤ 8) : NameOk (Txt.join "" (cs.map chC)) :=
  ⟨fun c hc => by rw [join_cs] at hc; exact h c hc, by rw [len_tl, join_cs]; exact l1, by rw [len_tl, join_cs]; exact l8⟩
theorem more_ok {x : Str} {c : Nat} (h : NameOk x) (l : x.length < 8) (h0 : 97 ≤ c) (h1 : c ≤ 122) : NameOk (x ++ chC c) := by
  have e : (x ++ chC c).length = x.length + 1 := by rw [len_tl, tl_ap, List.length_append, ← len_tl]; rfl
  refine ⟨fun d hd => ?_, by omega, by omega⟩
  rw [tl_ap] at hd
  rcases List.mem_append.mp hd with hd | hd
  · exact h.lets d hd
  · rw [List.mem_singleton.mp hd]; exact ⟨h0, h1⟩
theorem sub_len : ∀ (l fs : List Str), l.Nodup → (∀ x ∈ l, x ∈ fs) → l.length ≤ fs.length
  | [], fs, _, _ => Nat.zero_le _
  | a :: r, fs, n, h => by
    have n' := List.nodup_cons.mp n
    have ih := sub_len r (fs.erase a) n'.2 fun x hx => (List.mem_erase_of_ne (fun e => n'.1 (by rw [← e]; exact hx))).mpr (h x (List.mem_cons_of_mem _ hx))
    have := List.length_erase_of_mem (h a List.mem_cons_self)
    have p := List.length_pos_of_mem (h a List.mem_cons_self)
    rw [List.length_cons]; omega
theorem spare_is {fs : List Str} {k : Nat} (k1 : 1 ≤ k) (l : fs.length < 26) : ∃ i, i < 26 ∧ repW k (97 + i) ∉ fs := by
  refine Classical.byContradiction fun z => ?_
  have all : ∀ x ∈ (List.range 26).map fun i => repW k (97 + i), x ∈ fs := fun x hx => by
    obtain ⟨i, hi, rfl⟩ := List.mem_map.mp hx
    exact Classical.byContradiction fun y => z ⟨i, List.mem_range.mp hi, y⟩
  have nd : ((List.range 26).map fun i => repW k (97 + i)).Nodup := List.Pairwise.map _ (fun a b ne e => ne (by have := repW_inj k1 e; omega)) List.nodup_range
  have := sub_len _ fs nd all
  rw [List.length_map, List.length_range] at this
  omega
theorem inV_texts (r : Str) (l : List Str) : inV (.str r) (l.map V.str) = decide (r ∈ l) := by
  unfold inV
  rw [List.any_map]
  induction l with
  | nil => rfl
  | cons x l ih =>
    rw [List.any_cons, ih]
    by_cases h : r = x
    · subst h
      simp [eqV]
    · have h' : ¬ x = r := fun e => h e.symm
      simp [eqV, h, h']
theorem flat_texts (l : List Str) : (l.map V.str).all flatV = true := List.all_eq_true.mpr fun x hx => by
  obtain ⟨b, _, rfl⟩ := List.mem_map.mp hx
  rfl
theorem strOk_nm {x : Str} (h : NameOk x) : PyData.strOk x = true := by
  unfold PyData.strOk
  rw [← Array.all_toList]
  exact List.all_eq_true.mpr fun c hc => decide_eq_true (by have := h.lets c hc; omega)
theorem dp_textsD {K : PySem.W.Frag} {H : Hp} {a : Addr} {l : List Str} (h : H a = some (.lst (l.map V.str))) : Dp K H (.ref a) (.list (l.map PyData.str)) := by
  refine .lst (SqL.of h) ?_
  clear h
  induction l with
  | nil => exact .nil
  | cons x r ih => exact .cons (.str x) ih
theorem shp_textsD {l : List Str} (h : ∀ x ∈ l, NameOk x) : SeqAt.shaped (.list (l.map PyData.str)) = true := by
  have h1 : PyData.canLayAll0 (l.map PyData.str) = true := by
    induction l with
    | nil => simp [PyData.canLayAll0]
    | cons x r ih => simp only [List.map_cons, PyData.canLayAll0, PyData.canLay0, ih fun y hy => h y (List.mem_cons_of_mem _ hy), strOk_nm (h x List.mem_cons_self), Bool.and_true]
  have h2 : PyData.depthAll (l.map PyData.str) = 0 := by
    clear h1 h
    induction l with
    | nil => simp only [List.map_nil, PyData.depthAll]
    | cons x r ih => simp only [List.map_cons, PyData.depthAll, PyData.depth, ih]; rfl
  unfold SeqAt.shaped
  simp only [PyData.canLay0, PyData.depth, h1, h2]
  rfl
theorem ne_texts {l : List Str} : (!PyData.eqv (.list (l.map PyData.str)) (.list [])) = !l.isEmpty := by
  cases l with
  | nil => simp [PyData.eqv, PyData.eqvAll]
  | cons a r => simp [PyData.eqv, PyData.eqvAll]
def rLenQ (K : PySem.W.Frag) : List V → Hp → VK → Prop := fun xs H Q => ∃ p ys, xs = [V.ref p] ∧ (SqL K H p ys ∨ SqT K H p ys) ∧ Q (.int ys.length) H
def spSome : Sp := fun vs H Q _ => ∃ (p c : Addr) (m t : Nat), vs = [.ref p, .int m] ∧ m ≤ 8 ∧ PenD H p c t ∧ t + 120 < 2 ^ 29 ∧
  ∀ (l : Addr) (ns : List Str) (H' : Hp), NamesOk ns m → H l = none → But p H H' → PenD H' p c (t + 100) → H' l = some (.lst (ns.map V.str)) → Q (.ref l) H'
section
variable {P : Program} {w : World} {K : PySem.W.Frag} {mg : Str → Option Value} {base : Heap}
theorem scSome : FnScope ["pen", "many", "small", "found", "some", "word", "spare", "k", "one"] ["pen", "many"] (defScope sSome) := ⟨rfl, rfl, rfl, by decide +kernel, rfl, by decide +kernel, by decide +kernel⟩
theorem ok_some {f fT fOn : Addr} {fd fdT fdOn : FuncData} (F : Fun K "_law_some_names" "_law_some_names" sSome f fd) (T : TxD mg)
    (FT : Fun K "_law_draw" "_law_draw" sDraw fT fdT) (GT : FnOk P w K mg base CX0 2 fT fdT ["pen", "many"] spDraw) (bT : Binds K fdT ["pen", "many"] []) (gT : mg "_law_draw" = some (.ref fT))
    (FOn : Fun K "_law_one_of" "_law_one_of" sOneOf fOn fdOn) (GOn : FnOk P w K mg base CX0 3 fOn fdOn ["pen", "some"] spOneOf) (bOn : Binds K fdOn ["pen", "some"] []) (gOn : mg "_law_one_of" = some (.ref fOn)) :
    FnOk P w K mg base CX0 4 f fd ["pen", "many"] spSome := by
  refine F.ok scSome (fun vs H Q E h => ?_) (fun cdv A outer s H vs Q E hr h => ?_)
  · obtain ⟨p, c, m, t, rfl, _⟩ := h
    rfl
  · obtain ⟨p, c, m, t, rfl, m8, C, tt, k⟩ := h
    have hr3 := hr
    have hr2 : Room 2 _ := hr.mono (by decide)
    refine ⟨_, (pss_cons (ps_set (i := 2) scSome.nd rfl (Or.inr rfl) pe_str)
      (pss_cons (ps_set (i := 3) scSome.nd rfl (Or.inr rfl) (pe_lst pa_nil))
      (pss_cons (ps_while PassesOwn.never (pt_cmpR op_lt (pe_callB call_len_seq (by rfl) T.len PySem.boot_len (pa_cons (pv 3) pa_nil)) (pv 1) (nomark _)) (pss_cons (ps_setLc (i := 4) (own := [("k", 7)]) (g := gName 7) (tt := tYes) rfl scSome.nd rfl (by rfl) (sw_true (by rfl) (by rfl) (by rfl) (by rfl)) (pi_range1 (by rfl) T.range (pa_cons (pe_op op_add pe_int (pe_call GT hr2 (by rfl) gT FT.kp bT .nil pass0 (pa_cons (pv 0) (pa_cons pe_int pa_nil)))) pa_nil)) (blkOk_by (N := ["pen", "many", "small", "found", "some", "word", "spare", "k", "one"]) (sc := defScope sSome) (by decide +kernel)) (fun _ _ _ _ _ => (pg_name (i := 7) scSome.nd rfl (Or.inl rfl))) (fun _ _ _ _ _ => pts_nil) (fun _ _ _ _ _ => (pe_call GOn hr3 (by rfl) gOn FOn.kp bOn .nil pass0 (pa_cons (pv 0) (pa_cons (pv 2) pa_nil)))))
      (pss_cons (ps_set (i := 5) scSome.nd rfl (Or.inl rfl) (pe_bm PySem.F.plainAttrs_str PySem.F.slot_str_join PySem.F.type_str_join mt_join pe_str (pa_cons (pe_slice sl_list (pv 4) po_none (po_some (pe_call GOn hr3 (by rfl) gOn FOn.kp bOn .nil pass0 (pa_cons (pv 0) (pa_cons (pe_lst (pa_cons pe_int (pa_cons pe_int (pa_cons pe_int pa_nil)))) pa_nil))))) pa_nil)))
      (C8.pss_cut (ps_if (PW.pt (pw_and (pt_cmpR (op_neD hr.units) (pv 3) (pe_lst pa_nil) (nomark _)) (pw_and (pt_cmpR op_lt (pe_callB call_len_str (by rfl) T.len PySem.boot_len (pa_cons (pe_ix ix_list (pv 3) pe_int (fun _ _ => rfl)) pa_nil)) pe_int (nomark _)) (pw_and1 (pt_cmpR op_eq (pe_call GT hr2 (by rfl) gT FT.kp bT .nil pass0 (pa_cons (pv 0) (pa_cons pe_int pa_nil))) pe_int (nomark _)))))) (pss_one (ps_set (i := 5) scSome.nd rfl (Or.inl rfl) (pe_op op_add_str (pe_ix ix_list (pv 3) pe_int (fun _ _ => rfl)) (pe_ix ix_list (pv 4) pe_int (fun _ _ => rfl))))) pss_nil)
      (pss_cons (ps_setLc (i := 6) (own := [("one", 8)]) (g := gName 8) rfl scSome.nd rfl (by rfl) (sw_true (by rfl) (by rfl) (by rfl) (by rfl)) (pi_str (pv 2)) (blkOk_by (N := ["pen", "many", "small", "found", "some", "word", "spare", "k", "one"]) (sc := defScope sSome) (by decide +kernel)) (fun _ _ _ _ _ => (pg_name (i := 8) scSome.nd rfl (Or.inl rfl))) (fun _ _ _ _ _ => (pts_one (pt_cmpR (show OpR _ _ (rIn K true) from op_notIn_seq) (pe_op (show OpR _ _ rMulS from op_mulS) (pv 8) (pe_op op_add pe_int (pe_callB (show CallR _ _ (rLenQ K) from call_len_seq) (by rfl) T.len PySem.boot_len (pa_cons (pv 3) pa_nil)))) (pv 3) (by rfl)))) (fun _ _ _ _ _ => (pe_op (show OpR _ _ rMulS from op_mulS) (pv 8) (pe_op op_add pe_int (pe_callB (show CallR _ _ (rLenQ K) from call_len_seq) (by rfl) T.len PySem.boot_len (pa_cons (pv 3) pa_nil))))))
      (pss_one (ps_expr (pe_bm PySem.F.plainAttrs_list PySem.F.slot_list_append PySem.F.type_list_append mt_append (pv 3) (pa_cons (pe_ifExp (pt_cmpR op_in_seq (pv 5) (pv 3) (by rfl)) (pe_ix ix_list (pv 6) pe_int (fun _ _ => rfl)) (pv 5)) pa_nil)))))))))
      (pss_one (ps_ret (pv 3)))))), ?_⟩
    refine ⟨(by show 0 ≤ sizeLine; decide), fun F' nF => ?_⟩
    have Fp : F' ≠ p := C.not nF
    have Fc : F' ≠ c := fun z => C.at_c (by rw [← z]; exact nF)
    refine while_by (fun σ H2 => ∃ (x4 x5 x6 : Option V) (fs : List Str), σ = [some (.ref p), some (.int m), some (.str smallS), some (.ref F'), x4, x5, x6, none, none] ∧ H2 F' = some (.lst (fs.map V.str)) ∧ fs.length ≤ m ∧ fs.Nodup ∧ (∀ x ∈ fs, NameOk x) ∧ PenD H2 p c (t + 12 * fs.length) ∧ ∀ b o, b ≠ p → b ≠ F' → H b = some o → H2 b = some o) (fun _ H2 => match H2 F' with | some (.lst xs) => m - xs.length | _ => 0) ?_ ?_ ?_
    · exact ⟨none, none, none, [], rfl, upd_same, Nat.zero_le _, List.nodup_nil, (fun _ h => nomatch h), C.agree Fp Fc (fun b hb => upd_ne hb) (Nat.le_refl _), fun b o _ hb e => by rw [upd_ne hb]; exact e⟩
    · rintro σ H2 ⟨x4, x5, x6, fs, rfl, hF, fl, nd, fok, C2, kp⟩
      refine ⟨_, rfl, F', _, rfl, .inl (SqL.of hF), _, rfl, _, _, rfl, rfl, _, rfl, ?_⟩
      rw [List.length_map]
      by_cases hm : fs.length = m
      · refine ifF (decide_eq_false (by omega)) ?_
        refine ⟨_, rfl, k F' fs H2 ⟨hm, nd, fok⟩ nF (fun b o hb e => kp b o hb (ne_of_none e nF) e) (C2.same (Same.refl _) (by omega)) hF⟩
      · refine ifT (decide_eq_true (by omega)) ?_
        have lt7 : fs.length ≤ 7 := by omega
        have hF26 : fs.length < 26 := by omega
        -- some
        refine ⟨_, rfl, p, c, 8, _, rfl, by decide, by decide, C2, by omega, fun d H3 d0 d1 b3 C3 => ⟨_, _, rfl, rfl, _, rfl, by omega, by omega, fun D nD => ?_⟩⟩
        have hF3 := b3 _ _ Fp hF
        have Dp : D ≠ p := C3.not nD
        have Dc : D ≠ c := fun z => C3.at_c (by rw [← z]; exact nD)
        have DF' : D ≠ F' := (ne_of_none hF3 nD).symm
        refine lc_it (walk_range (lo := 0) (n := (1 + d).toNat)) (fun i Hi => PenD Hi p c (t + 12 * fs.length + 1 + i) ∧ i ≤ 8 ∧ (∀ b o, b ≠ p → H3 b = some o → Hi b = some o) ∧ ∃ l : List Nat, l.length = i ∧ (∀ x ∈ l, 97 ≤ x ∧ x ≤ 122) ∧ Hi D = some (.lst ((l.map chC).map V.str)))
          ⟨C3.agree Dp Dc (fun b hb => upd_ne hb) (by omega), by omega, (fun b o _ e => by rw [upd_ne (ne_of_none e nD)]; exact e), [], rfl, (fun _ h => nomatch h), upd_same⟩ (fun _ _ _ _ => trivial) ?_ ?_
        · rintro i x Hi Hj hi ⟨C4, _, b4, l, ll, lc, hD⟩ ⟨rfl, hx⟩
          refine ⟨rfl, ?_⟩
          refine ⟨_, rfl, _, rfl, p, c, _, .str smallS, rfl, C4, by omega, .inr ⟨smallS, rfl, by decide +kernel, by decide +kernel, fun ch H5 cin b5 C5 => ?_⟩⟩
          refine ⟨_, b5 _ _ Dp hD, by rw [List.length_map, List.length_map, sizeLine_eq]; omega, C5.agree Dp Dc (fun b hb => upd_ne hb) (by omega), by omega, fun b o hb e => ?_, l ++ [ch], by rw [List.length_append, ll]; rfl, fun y hy => ?_, by rw [upd_same, List.map_append, List.map_append]; rfl⟩
          · rw [upd_ne (ne_of_none e nD)]; exact b5 _ _ hb (b4 _ _ hb e)
          · rcases List.mem_append.mp hy with h | h
            · exact lc y h
            · rw [List.mem_singleton.mp h]
              rw [small_tl] at cin
              obtain ⟨j, hj, rfl⟩ := List.mem_map.mp cin
              have := List.mem_range.mp hj
              omega
        rintro H4 ⟨C4, _, b4, l, ll, lc, hD⟩
        have l1 : 1 ≤ l.length := by omega
        have l8 : l.length ≤ 8 := by omega
        have hF4 := b4 _ _ Fp hF3
        -- word
        refine ⟨rfl, _, rfl, _, rfl, (by show 3 ≤ sizeLine; decide), fun l3 nl3 => ?_⟩
        have s3 : Same H4 (upd H4 l3 (.lst [.int 1, .int 2, .int 8])) := Same.upd nl3
        have l3p : l3 ≠ p := C4.not nl3
        refine ⟨p, c, _, .ref l3, rfl, C4.same s3 (Nat.le_refl _), by omega, .inl ⟨l3, _, rfl, l3p, upd_same, (fun z => nomatch z), by decide, fun v H5 vin b5 C5 => ?_⟩⟩
        obtain ⟨q, rfl, q0, q8⟩ : ∃ q : Nat, v = .int (q : Int) ∧ 1 ≤ q ∧ q ≤ 8 := by
          simp only [List.mem_cons, List.not_mem_nil, or_false] at vin
          rcases vin with rfl | rfl | rfl
          · exact ⟨1, rfl, by decide, by decide⟩
          · exact ⟨2, rfl, by decide, by decide⟩
          · exact ⟨8, rfl, by decide, by decide⟩
        have b45 : But p H4 H5 := (But.of s3).trans b5
        have hD5 := b45 _ _ Dp hD
        have hF5 := b45 _ _ Fp hF4
        refine ⟨_, rfl, D, _, rfl, SqL.of hD5, fun s6 ns6 => ?_⟩
        have ecut : cutV ((l.map chC).map V.str) none (some (q : Int)) = ((l.take q).map chC).map V.str := by
          unfold cutV
          have a1 : HT.sIx ((l.map chC).map V.str).length 0 none = 0 := rfl
          have a2 : HT.sIx ((l.map chC).map V.str).length ((l.map chC).map V.str).length (some (q : Int)) = min q ((l.map chC).map V.str).length := sIx_nat _ _ q
          rw [a1, a2, List.drop_zero, Nat.sub_zero, List.length_map, List.length_map, List.map_take, List.map_take]
          by_cases h : q ≤ l.length
          · rw [Nat.min_eq_left h]
          · rw [Nat.min_eq_right (by omega), List.take_of_length_le (by simp), List.take_of_length_le (by simp; omega)]
        rw [ecut]
        have s6' : Same H5 (upd H5 s6 (.lst (((l.take q).map chC).map V.str))) := Same.upd ns6
        have h6 : (upd H5 s6 (.lst (((l.take q).map chC).map V.str))) s6 = some (.lst (((l.take q).map chC).map V.str)) := upd_same
        have C6 := C5.same s6' (Nat.le_refl _)
        have hD6 := s6' _ _ hD5
        have hF6 := s6' _ _ hF5
        have k6 : ∀ b o, b ≠ p → b ≠ F' → H b = some o → (upd H5 s6 (.lst (((l.take q).map chC).map V.str))) b = some o := fun b o h1 h2 e => s6' _ _ (b45 _ _ h1 (b4 _ _ h1 (b3 _ _ h1 (kp b o h1 h2 e))))
        generalize upd H5 s6 (.lst (((l.take q).map chC).map V.str)) = H6 at h6 C6 hD6 hF6 k6
        have tq : (l.take q).length = min q l.length := List.length_take
        have wok := word_ok (cs := l.take q) (fun x hx => lc x (List.mem_of_mem_take hx)) (by omega) (by omega)
        refine ⟨"", s6, (l.take q).map chC, rfl, rfl, .inl (SqL.of h6), ?_, ?_⟩
        · have e1 : ∀ zs : List Nat, ((zs.map chC).map (·.length)).sum = zs.length := fun zs => by
            induction zs with
            | nil => rfl
            | cons x r ih => rw [List.map_cons, List.map_cons, List.sum_cons, ih, List.length_cons]; show 1 + r.length = _; omega
          have e2 : (("" : String) : Str).length = 0 := by decide
          rw [e1, e2]; omega
        generalize Txt.join "" ((l.take q).map chC) = wd at wok
        refine ⟨fun σ Ho => ∃ wd : Str, σ = [some (.ref p), some (.int m), some (.str smallS), some (.ref F'), some (.ref D), some (.str wd), x6, none, none] ∧ NameOk wd ∧ PenD Ho p c (t + 12 * fs.length + 12) ∧ Ho F' = some (.lst (fs.map V.str)) ∧ ∀ b o, b ≠ p → b ≠ F' → H b = some o → Ho b = some o, ?_, ?_⟩
        · refine ⟨_, rfl, (by show 0 ≤ sizeLine; decide), fun e7 n7 => ?_⟩
          have s7 : Same H6 (upd H6 e7 (.lst [])) := Same.upd n7
          have h7 : (upd H6 e7 (.lst [])) e7 = some (.lst []) := upd_same
          generalize upd H6 e7 (.lst []) = H7 at s7 h7
          have C7 := C6.same s7 (Nat.le_refl _)
          have k7 : ∀ b o, b ≠ p → b ≠ F' → H b = some o → H7 b = some o := fun b o h1 h2 e => s7 _ _ (k6 b o h1 h2 e)
          have no : ∃ wd : Str, [some (V.ref p), some (.int m), some (.str smallS), some (.ref F'), some (.ref D), some (.str wd), x6, none, none] = [some (V.ref p), some (.int m), some (.str smallS), some (.ref F'), some (.ref D), some (.str wd), x6, none, none] ∧ NameOk wd := ⟨wd, rfl, wok⟩
          refine ⟨_, _, dp_textsD (s7 _ _ hF6), .lst (SqL.of h7) .nil, shp_textsD fok, by decide, _, rfl, ?_⟩
          rw [ne_texts]
          cases fs with
          | nil => exact ifF rfl (ifF rfl ⟨wd, rfl, wok, C7.same (Same.refl _) (by omega), s7 _ _ hF6, k7⟩)
          | cons x0 fr =>
            refine ifT rfl ?_
            refine ⟨_, rfl, F', _, 0, .str x0, rfl, rfl, SqL.of (s7 _ _ hF6), atI_nat (j := 0) rfl, x0, rfl, by have := (fok x0 List.mem_cons_self).hi; rw [sizeLine_eq]; omega, _, _, rfl, rfl, _, rfl, ite2 (fun h => ?_) (fun _ => ifF rfl ⟨wd, rfl, wok, C7.same (Same.refl _) (by omega), s7 _ _ hF6, k7⟩)⟩
            have x7 : x0.length < 8 := by have := of_decide_eq_true h; omega
            refine ⟨_, rfl, p, c, 5, _, rfl, by decide, by decide, C7, by omega, fun z H8 z0 z1 b8 C8 => ?_⟩
            have hF8 := b8 _ _ Fp (s7 _ _ hF6)
            have k8 : ∀ b o, b ≠ p → b ≠ F' → H b = some o → H8 b = some o := fun b o h1 h2 e => b8 _ _ h1 (k7 b o h1 h2 e)
            refine ⟨rfl, _, rfl, ite2 (fun _ => ?_) (fun _ => ⟨wd, rfl, wok, C8.same (Same.refl _) (by omega), hF8, k8⟩)⟩
            obtain ⟨ch, r, rfl⟩ : ∃ ch r, l = ch :: r := by
              cases l with
              | nil => simp at l1
              | cons a r => exact ⟨a, r, rfl⟩
            have hc := lc ch List.mem_cons_self
            refine ⟨_, rfl, F', _, 0, .str x0, rfl, rfl, SqL.of hF8, atI_nat (j := 0) rfl, _, rfl, D, _, 0, .str (chC ch), rfl, rfl, SqL.of (b8 _ _ Dp (s7 _ _ hD6)), atI_nat (j := 0) rfl, _, _, rfl, rfl, by rw [sizeLine_eq]; show x0.length + 1 ≤ _; omega, ?_⟩
            exact ⟨_, rfl, more_ok (fok x0 List.mem_cons_self) x7 hc.1 hc.2, C8.same (Same.refl _) (by omega), hF8, k8⟩
        rintro σ H9 ⟨wd, rfl, wok, C9, hF9, k9⟩
        -- spare
        refine ⟨_, rfl, _, rfl, fun D2 nD2 => ?_⟩
        refine lc_gen (walk_str (z := smallS)) (fun i => !decide (repW (1 + fs.length) ((smallS.cps[i]?).getD 0) ∈ fs)) (fun i => .str (repW (1 + fs.length) ((smallS.cps[i]?).getD 0))) nD2 (by decide +kernel) (fun _ _ => trivial) (fun i y Ha Hb hi sa yy Q2 R q2 r2 => ?_) fun Ha sa hDa => ?_
        · obtain ⟨rfl, ch, hc, rfl⟩ := yy
          refine ⟨rfl, ?_⟩
          rw [hc] at q2 r2
          have hFa := sa _ _ hF9
          have ek : V.int (1 + ((fs.map V.str).length : Int)) = V.int (((1 + fs.length : Nat)) : Int) := by rw [List.length_map, Int.natCast_add]; rfl
          have mul : ∀ Qx : VK, Qx (.str (repW (1 + fs.length) ch)) Hb → tOp rMulS (tVar 8) (tOp (rI0 fun i j => V.int (i + j)) (tC (.int 1)) (tCB (rLenQ K) (tCons (tVar 3) tNil))) [some (.ref p), some (.int m), some (.str smallS), some (.ref F'), some (.ref D), some (.str wd), x6, none, some (.str ⟨#[ch]⟩)] Hb Qx := fun Qx q =>
            ⟨_, rfl, _, rfl, F', _, rfl, .inl (SqL.of hFa), _, _, rfl, rfl, ⟨#[ch]⟩, 1 + fs.length, rfl, ek, by omega, by omega, by show 1 ≤ 1000; decide, q⟩
          refine mul _ ⟨_, rfl, F', _, rfl, .inl (SqL.of hFa), rfl, flat_texts _, _, rfl, ?_⟩
          rw [inV_texts]
          cases hq : decide (repW (1 + fs.length) ch ∈ fs) with
          | true => exact r2 (by show (!decide (repW (1 + fs.length) ch ∈ fs)) = false; rw [hq]; rfl) Hb (Same.refl _)
          | false => exact mul _ (q2 (by show (!decide (repW (1 + fs.length) ch ∈ fs)) = true; rw [hq]; rfl) Hb (Same.refl _))
        obtain ⟨i, i26, hsp⟩ := spare_is (fs := fs) (k := 1 + fs.length) (by omega) hF26
        have hFa := sa _ _ hF9
        -- found.append
        have fin : ∀ (x : Str) (Hz : Hp), Hz = Ha → NameOk x → x ∉ fs → (∃ (x4 x5 x6 : Option V) (gs : List Str), [some (V.ref p), some (.int m), some (.str smallS), some (.ref F'), some (.ref D), some (.str wd), some (.ref D2), none, none] = [some (V.ref p), some (.int m), some (.str smallS), some (.ref F'), x4, x5, x6, none, none] ∧ upd Ha F' (.lst (fs.map V.str ++ [.str x])) F' = some (.lst (gs.map V.str)) ∧ gs.length ≤ m ∧ gs.Nodup ∧ (∀ x ∈ gs, NameOk x) ∧ PenD (upd Ha F' (.lst (fs.map V.str ++ [.str x]))) p c (t + 12 * gs.length) ∧ ∀ b o, b ≠ p → b ≠ F' → H b = some o → upd Ha F' (.lst (fs.map V.str ++ [.str x])) b = some o) ∧
            (match upd Ha F' (.lst (fs.map V.str ++ [.str x])) F' with | some (.lst xs) => m - xs.length | _ => 0) < (match H2 F' with | some (.lst xs) => m - xs.length | _ => 0) := fun x Hz _ xok xn => by
          refine ⟨⟨_, _, _, fs ++ [x], rfl, by rw [upd_same, List.map_append]; rfl, by rw [List.length_append]; show fs.length + 1 ≤ m; omega, ?_, fun y hy => ?_, ?_, fun b o h1 h2 e => by rw [upd_ne h2]; exact sa _ _ (k9 b o h1 h2 e)⟩, ?_⟩
          · exact List.nodup_append.mpr ⟨nd, (by simp), fun a ha b hb e => xn (by rw [← List.mem_singleton.mp hb, ← e]; exact ha)⟩
          · rcases List.mem_append.mp hy with h | h
            · exact fok y h
            · rw [List.mem_singleton.mp h]; exact xok
          · refine (C9.same sa (Nat.le_refl _)).agree Fp Fc (fun b hb => upd_ne hb) ?_
            rw [List.length_append]; show _ ≤ t + 12 * (fs.length + 1); omega
          · rw [upd_same, hF]
            dsimp only
            rw [List.length_append, List.length_map]
            show m - (fs.length + 1) < m - fs.length
            omega
        refine ⟨_, rfl, .inl ⟨rfl, _, SqL.of hFa⟩, ?_⟩
        refine ⟨_, rfl, _, rfl, F', _, rfl, .inl (SqL.of hFa), rfl, flat_texts _, _, rfl, ite2 (fun _ => ?_) (fun hn => ?_)⟩
        · obtain ⟨a, r, ear⟩ : ∃ a r, (List.range smallS.cps.size).filter (fun i => !decide (repW (1 + fs.length) ((smallS.cps[i]?).getD 0) ∈ fs)) = a :: r := by
            have hm : i ∈ (List.range smallS.cps.size).filter (fun i => !decide (repW (1 + fs.length) ((smallS.cps[i]?).getD 0) ∈ fs)) := by
              refine List.mem_filter.mpr ⟨List.mem_range.mpr (Nat.lt_of_lt_of_le i26 (by decide +kernel)), ?_⟩
              rw [small_at i26, decide_eq_false hsp]; rfl
            cases q : (List.range smallS.cps.size).filter (fun i => !decide (repW (1 + fs.length) ((smallS.cps[i]?).getD 0) ∈ fs)) with
            | nil => rw [q] at hm; cases hm
            | cons a r => exact ⟨a, r, rfl⟩
          have ain : a ∈ (List.range smallS.cps.size).filter (fun i => !decide (repW (1 + fs.length) ((smallS.cps[i]?).getD 0) ∈ fs)) := by rw [ear]; exact List.mem_cons_self
          obtain ⟨a1, a2⟩ := List.mem_filter.mp ain
          have a26 : a < 26 := Nat.lt_of_lt_of_le (List.mem_range.mp a1) (by decide +kernel)
          rw [small_at a26] at a2
          have an : repW (1 + fs.length) (97 + a) ∉ fs := by simpa using a2
          rw [ear, List.map_cons, small_at a26] at hDa
          refine ⟨_, rfl, D2, _, 0, _, rfl, rfl, SqL.of hDa, atI_nat (j := 0) rfl, F', _, _, rfl, rfl, hFa, by rw [List.length_map, sizeLine_eq]; omega, ?_⟩
          exact fin _ Ha rfl (repW_ok (by omega) (by omega) (by omega) (by omega)) an
        · have xn : wd ∉ fs := by
            intro h
            apply hn
            rw [inV_texts]; exact decide_eq_true h
          exact ⟨_, rfl, F', _, _, rfl, rfl, hFa, by rw [List.length_map, sizeLine_eq]; omega, fin wd Ha rfl wok xn⟩
    · intro σ H2 Q1 Q2 q h
      obtain ⟨v, e, a', ys, e1, e2, v2, e3, i, j, e4, e5, bb, e6, h2⟩ := h
      exact ⟨v, e, a', ys, e1, e2, v2, e3, i, j, e4, e5, bb, e6, q _ _ h2⟩
end
end My

set_option linter.all false
namespace My
open PySem PySem.Spec PyProof.Rows L2
/-! ### sorted of data that can be compared, tuples in tuples too -/
section
variable {X : Cx}
def rSortX (w : World) : List V → Hp → VK → Prop := fun xs H Q => ∃ (a : Addr) (zs : List (V × PyData)), xs = [.ref a] ∧ H a = some (.lst (zs.map (·.1))) ∧ (∀ z ∈ zs, Dx w H z.1 z.2) ∧
  PySem.W.AllAlike (zs.map (·.2)) ∧ PySem.W.Sortable (zs.map (·.2)) ∧ (∀ z ∈ zs, z.2.depth ≤ 50) ∧ ∀ p, H p = none → Q (.ref p) (upd H p (.lst ((zs.mergeSort (PySem.W.dataLe false (·.2))).map (·.1))))
theorem each_rel : ∀ {zs : List (V × PyData)} {us : List Value}, Vals (zs.map (·.1)) us → PySem.W.EachIs (fun u z => RelV z.1 u) us zs
  | [], us, r => by cases r; exact .nil
  | z :: zs, us, r => by
    cases r with
    | cons a b => exact .cons a (each_rel b)
theorem each_vals : ∀ {zs : List (V × PyData)} {us : List Value}, PySem.W.EachIs (fun u z => RelV z.1 u) us zs → Vals (zs.map (·.1)) us
  | _, _, .nil => .nil
  | _, _, .cons a b => .cons a (each_vals b)
theorem each_reads {pins : List (Addr × Obj)} {σ : L2.St} {H : Hp} {s : Shared} (I : Inv X pins σ H s) : ∀ {zs : List (V × PyData)} {us : List Value}, PySem.W.EachIs (fun u z => RelV z.1 u) us zs → (∀ z ∈ zs, Dx X.w H z.1 z.2) → PySem.W.EachIs (fun u z => ∃ as, Reads s.heap u z.2 as) us zs
  | _, _, .nil, _ => .nil
  | _, _, .cons a b, h => .cons (Dx.reads I _ _ _ (h _ List.mem_cons_self) a) (each_reads I b fun z hz => h z (List.mem_cons_of_mem _ hz))
theorem cr_sortedX (hu : X.A.units + 64 < cLine) : CallR X (.builtin "sorted") (rSortX X.w) := by
  intro pins s σ H xs us Q I r h
  obtain ⟨a, zs, rfl, ha, hd, hal, hk, hdp, q⟩ := h
  obtain ⟨u, rfl, rx⟩ := vals1 r
  cases (show u = Value.ref a from rx)
  obtain ⟨hz, its, n, rv, hl⟩ := (show ObjOk X.prog X.w H s.heap a (.lst (zs.map (·.1))) from I.hok a _ ha)
  have e := each_rel rv
  rw [List.length_map] at hz
  refine PySem.W.sorted_data (enc := fun z : V × PyData => z.2) ⟨_, hl, rfl, n, rfl⟩ e (each_reads I e hd) hal hk hz (fun z hz => by have := hdp z hz; omega) fun out ol eo => ?_
  obtain ⟨c, hc⟩ := sortedAll_at s.heap its out.toArray
  have lo : ((zs.mergeSort (PySem.W.dataLe false (·.2))).map (·.1)).length ≤ sizeLine := by rw [List.length_map, List.length_mergeSort]; exact hz
  exact ⟨.ref (s.heap.objs.size + 1), upd H (s.heap.objs.size + 1) (.lst ((zs.mergeSort (PySem.W.dataLe false (·.2))).map (·.1))), I.laid (t' := s.toks) (fun b o g => sortedAll_old g) (Nat.le_succ _)
    (show ObjOk X.prog X.w _ _ _ (.lst _) from ⟨lo, out, c, each_vals eo, hc⟩), rfl, q _ (I.hok.fresh (Nat.le_succ _))⟩
end
end My

set_option linter.all false
namespace My
open PySem PySem.Spec PyProof.Rows L2
/-! ### data that can be compared; lcm -/
section
variable {X : Cx}
def rLtX (w : World) : R2 := fun x y H Q => ∃ d e, Dx w H x d ∧ Dx w H y e ∧ PySem.W.alike d e = true ∧ d ≠ .none ∧ d.depth ≤ 60 ∧ Q (.bl (PySem.W.dataLt d e)) H
theorem op_ltX (hu : X.A.units + 64 < cLine) : OpR X (compareOp .Lt) (rLtX X.w) := by
  intro pins s σ H x y v u Q I rx ry h
  obtain ⟨d, e, hd, he, al, nn, dp, q⟩ := h
  obtain ⟨as, r1⟩ := Dx.reads I d x v hd rx
  obtain ⟨bs, r2⟩ := Dx.reads I e y u he ry
  exact PySem.W.rcLt_alike d e X.A s v u as bs r1 r2 al nn (by omega) X.prog X.w X.xe (EP X pins σ Q) ⟨.bl _, H, I, rfl, q⟩
def rEqX (w : World) (f : Bool → Bool) : R2 := fun x y H Q => ∃ d e, Dx w H x d ∧ Dx w H y e ∧ SeqAt.shaped d = true ∧ SeqAt.shaped e = true ∧ Q (.bl (f (PyData.eqv d e))) H
theorem op_eqX (hu : X.A.units + 64 < cLine) : OpR X (compareOp .Eq) (rEqX X.w id) := by
  intro pins s σ H x y v u Q I rx ry h
  obtain ⟨d, e, hd, he, sd, se, q⟩ := h
  obtain ⟨as, r1⟩ := Dx.reads I d x v hd rx
  obtain ⟨bs, r2⟩ := Dx.reads I e y u he ry
  exact SeqAt.compareEq_shaped r1 r2 sd se hu ⟨.bl _, H, I, rfl, q⟩
theorem op_neX (hu : X.A.units + 64 < cLine) : OpR X (compareOp .NotEq) (rEqX X.w not) := by
  intro pins s σ H x y v u Q I rx ry h
  obtain ⟨d, e, hd, he, sd, se, q⟩ := h
  obtain ⟨as, r1⟩ := Dx.reads I d x v hd rx
  obtain ⟨bs, r2⟩ := Dx.reads I e y u he ry
  exact SeqAt.compareNe_shaped r1 r2 sd se hu ⟨.bl _, H, I, rfl, q⟩
def rLcm : List V → Hp → VK → Prop := fun vs H Q => ∃ a b : Nat, vs = [.int a, .int b] ∧ a < 2 ^ 6000 ∧ b < 2 ^ 6000 ∧ Q (.int ((Nat.lcm a b : Nat) : Int)) H
theorem cr_lcm : CallR X (.builtin "math.lcm") rLcm := by
  intro pins s σ H vs us Q I r h
  obtain ⟨a, b, rfl, ha, hb, q⟩ := h
  obtain ⟨t, u, rfl⟩ := Vals.int2 r
  have lg : ∀ n : Nat, n < 2 ^ 6000 → n.log2 < 6000 := fun n hn => PySem.Flt.log2_lt_of (by decide) hn
  have e1 : ((((Nat.lcm 1 (a : Int).natAbs).lcm (b : Int).natAbs : Nat) : Int)) = ((Nat.lcm a b : Nat) : Int) := by
    rw [Int.natAbs_natCast, Int.natAbs_natCast, Nat.lcm_one_left]
  have l1 : (max 1 (a : Int).natAbs).log2 < 6000 := lg _ (by rw [Int.natAbs_natCast]; exact Nat.max_lt.mpr ⟨Nat.one_lt_two_pow (by decide), ha⟩)
  have l2 : (max (a : Int).natAbs (b : Int).natAbs).log2 < 6000 := lg _ (by rw [Int.natAbs_natCast, Int.natAbs_natCast]; exact Nat.max_lt.mpr ⟨ha, hb⟩)
  have le : Nat.lcm a b ≤ a * b := by
    rcases Nat.eq_zero_or_pos (a * b) with z | z
    · rcases Nat.mul_eq_zero.mp z with z | z <;> (subst z; simp)
    · exact Nat.le_of_dvd z (Nat.lcm_dvd (Nat.dvd_mul_right _ _) (Nat.dvd_mul_left _ _))
  have hm : a * b < 2 ^ 12000 := by
    have : (2 : Nat) ^ 12000 = 2 ^ 6000 * 2 ^ 6000 := by rw [← Nat.pow_add]
    rw [this]
    exact Nat.mul_lt_mul'' ha hb
  have sz : ((((Nat.lcm 1 (a : Int).natAbs).lcm (b : Int).natAbs : Nat) : Int)).natAbs.log2 < bitsLine := by
    rw [e1, Int.natAbs_natCast]
    exact Nat.lt_trans (PySem.Flt.log2_lt_of (k := 12000) (by decide) (Nat.lt_of_le_of_lt le hm)) (by decide)
  refine call_function_meets PySem.W.MGF.kind_lcm PySem.W.MGF.plain_lcm PySem.W.MGF.entry_lcm (PySem.W.MGF.args_lcm _ _) (PySem.W.mg_run_lcm (a : Int) t (b : Int) u (by omega) (by omega) sz).meets ?_
  rw [e1]
  exact ⟨.int _, H, I.tok _, ⟨_, rfl⟩, q⟩
end
end My

set_option linter.all false
namespace My
open PySem PySem.Spec PyProof.Rows L2
/-! ### the heap without the pen -/
def off (H : Hp) (p : Addr) : Hp := fun a => if a = p then none else H a
theorem off_at {H : Hp} {p : Addr} : off H p p = none := if_pos rfl
theorem off_ne {H : Hp} {p a : Addr} (h : a ≠ p) : off H p a = H a := if_neg h
theorem off_same {H : Hp} {p : Addr} : Same (off H p) H := fun a o h => by
  by_cases c : a = p
  · rw [c, off_at] at h; cases h
  · rw [off_ne c] at h; exact h
theorem off_but {p : Addr} {H H' : Hp} (b : But p H H') : Same (off H p) (off H' p) := fun a o h => by
  by_cases c : a = p
  · rw [c, off_at] at h; cases h
  · rw [off_ne c] at h ⊢; exact b a o c h
theorem off_of {p : Addr} {H H' : Hp} (e : Same H H') : Same (off H p) (off H' p) := off_but (But.of e)
theorem nw_off {p : Addr} {G' H H' : Hp} (m : Nw (off H p) H G' H') (hp : H p ≠ none) : Same G' (off H' p) := fun c o h => by
  have gp : G' p = none := (m.old p hp).trans off_at
  have cp : c ≠ p := fun e => by rw [e, gp] at h; cases h
  rw [off_ne cp]; exact m.gh _ _ h
theorem tup_off {p pc t : Addr} {n : Nat} {H : Hp} {xs : List V} (P : PenC H p pc n) (h : H t = some (.tup xs)) : off H p t = some (.tup xs) := by
  by_cases z : t = p
  · subst z
    obtain ⟨cells, x, y, g1, _⟩ := P.ex
    rw [g1] at h; cases h
  · rw [off_ne z]; exact h
/-! ### data made by an expression, dicts too -/
def tDx (w : World) (d : PyData) : TE := fun _ H Q => ∃ G, Same G H ∧ ∀ v G' H', Nw G H G' H' → Dx w G' v d → Q v H'
def tDxs (w : World) (ds : List PyData) : TA := fun _ H Q => ∃ G, Same G H ∧ ∀ vs G' H', Nw G H G' H' → DxAll w G' vs ds → Q vs H'
theorem df_leaf {w : World} {H G : Hp} {d : Addr} {kvs : List Kvv} {od : Obj} {u : HO} (h : DF w H d kvs) (e : H d = some (.frz od u)) (g : G d = some (.frz od u)) (k : ∀ x ∈ kvs, KeyV G x.1 x.2.1) : DF w G d kvs := by
  obtain ⟨od2, u2, es, ep, h1, h2, h3, h4, h5, h6⟩ := h
  rw [e] at h1
  cases h1
  refine ⟨od, u, es, ep, g, h2, h3, h4, ⟨?_, h5.nod, h5.lt⟩, h6⟩
  have p := h5.prd
  clear h5 h2 h3 h4 e g
  generalize es.toList = l at p
  induction p with
  | nil => exact .nil
  | cons h t ih => exact .cons ⟨k _ List.mem_cons_self, h.2⟩ (ih fun x hx => k x (List.mem_cons_of_mem _ hx))
section
variable {X : Cx} {pos : Pos}
theorem dx_int {i : Int} {j : Nat} : PE X (.Constant (.int i) j pos) (tDx X.w (.int i)) := PE.imp pe_int fun _ _ _ ⟨_, e, k⟩ => k _ _ _ (Nw.refl e) (.int i)
theorem dx_str {x : Str} {j : Nat} : PE X (.Constant (.str x) j pos) (tDx X.w (.str x)) := PE.imp pe_str fun _ _ _ ⟨_, e, k⟩ => k _ _ _ (Nw.refl e) (.str x)
theorem dx_bl {b : Bool} {j : Nat} : PE X (.Constant (.bool b) j pos) (tDx X.w (.bool b)) := PE.imp pe_bl fun _ _ _ ⟨_, e, k⟩ => k _ _ _ (Nw.refl e) (.bl b)
theorem dx_non {j : Nat} : PE X (.Constant .none j pos) (tDx X.w .none) := PE.imp pe_non fun _ _ _ ⟨_, e, k⟩ => k _ _ _ (Nw.refl e) .non
theorem dx_neg {i : Int} {j : Nat} {p : Pos} : PE X (.UnaryOp .USub (.Constant (.int i) j p) pos) (tDx X.w (.int (-i))) := PE.imp (pe_un un_neg pe_int) fun _ _ _ ⟨_, e, k⟩ => ⟨i, rfl, k _ _ _ (Nw.refl e) (.int _)⟩
theorem dx_pow {i j : Int} {a b : Nat} {p q : Pos} (h : CPow i j) : PE X (.BinOp (.Constant (.int i) a p) .Pow (.Constant (.int j) b q) pos) (tDx X.w (.int (i ^ j.toNat))) :=
  PE.imp (pe_op op_pow pe_int pe_int) fun _ _ _ ⟨_, e, k⟩ => ⟨i, j, rfl, rfl, h, k _ _ _ (Nw.refl e) (.int _)⟩
theorem dxs_nil : PA X [] (tDxs X.w []) := PA.imp pa_nil fun _ _ _ ⟨_, e, k⟩ => k _ _ _ (Nw.refl e) .nil
theorem dxs_cons {e : Expr} {es : List Expr} {d : PyData} {ds : List PyData} (h1 : PE X e (tDx X.w d)) (h2 : PA X es (tDxs X.w ds)) (hs : starEach (e :: es) X.env = (false, eval e X.env) :: starEach es X.env := by rfl) : PA X (e :: es) (tDxs X.w (d :: ds)) :=
  PA.imp (pa_cons h1 h2 hs) fun _ _ _ ⟨G, e, k⟩ => ⟨G, e, fun _ G1 _ n1 d1 => ⟨G1, n1.gh, fun _ _ _ n2 d2 => k _ _ _ (n1.trans n2) (.cons (d1.mono n2.gg) d2)⟩⟩
theorem dx_tup {es : List Expr} {ds : List PyData} {x1} (h : PA X es (tDxs X.w ds)) (hl : ds.length ≤ sizeLine) : PE X (.Tuple es x1 pos) (tDx X.w (.tuple ds)) :=
  PE.imp (pe_tup h) fun _ _ _ ⟨G, e, k⟩ => ⟨G, e, fun vs G1 H1 n1 d1 => ⟨by rw [d1.len]; exact hl, fun p np => k _ _ _ (n1.trans (Nw.mk1 n1.gh np (.tup vs))) (.tup upd_same (d1.mono (Nw.mk1 n1.gh np (.tup vs)).gg))⟩⟩
theorem dx_lst {es : List Expr} {ds : List PyData} (h : PA X es (tDxs X.w ds)) (hl : ds.length ≤ sizeLine) : PE X (.List es pos) (tDx X.w (.list ds)) :=
  PE.imp (pe_lst h) fun _ _ _ ⟨G, e, k⟩ => ⟨G, e, fun vs G1 H1 n1 d1 => ⟨by rw [d1.len]; exact hl, fun p np => k _ _ _ (n1.trans (Nw.mk1 n1.gh np (.lst vs))) (.lst upd_same (d1.mono (Nw.mk1 n1.gh np (.lst vs)).gg))⟩⟩
theorem dx_dict0 : PE X (.Dict [] [] pos) (tDx X.w (.dict [])) :=
  PE.imp (pe_frz pe_dnewK) fun _ _ _ ⟨G, e, k⟩ => fun p np => ⟨p, .inl ⟨[], upd_same, fun od h => by
    rw [upd_upd] at h ⊢
    exact k _ _ _ (Nw.mk1 e np _) (.dct (df_leaf h upd_same upd_same fun x hx => nomatch hx) .nil .nil)⟩⟩
/-- an expression that gives new data of its own kind -/
theorem dx_of {e : Expr} {te : TE} {d : PyData} (h : PE X e te) (i : ∀ σ H Q, (∃ G, Same G H ∧ ∀ v G' H', Nw G H G' H' → Dx X.w G' v d → Q v H') → te σ H Q) : PE X e (tDx X.w d) := PE.imp h fun σ H Q q => i σ H Q q
end
/-! ### how large a thing is when shown -/
structure Sz (B k : Nat) (d : PyData) : Prop where
  sh : d.showable = true
  ln : d.shown.length ≤ B
  dp : d.depth ≤ k
theorem Sz.up {B B' k k' : Nat} {d : PyData} (h : Sz B k d) (h1 : B ≤ B') (h2 : k ≤ k') : Sz B' k' d := ⟨h.sh, by have := h.ln; omega, by have := h.dp; omega⟩
theorem Sz.shw {B k : Nat} {d : PyData} (h : Shw B k d) : Sz B k d := ⟨h.sh, h.ln, h.dp⟩
theorem sz_tup {B k n : Nat} {ds : List PyData} (h : ∀ d ∈ ds, Sz B k d) (hn : ds.length ≤ n) : Sz (n * (B + 2) + 3) (k + 1) (.tuple ds) := by
  refine ⟨by simp only [PyData.showable]; exact showAll_of ds fun d hd => (h d hd).sh, ?_, by simp only [PyData.depth]; have := depthAll_le k ds fun d hd => (h d hd).dp; omega⟩
  simp only [PyData.shown]
  rw [shownAll_map]
  have := tupleText_le B (ds.map PyData.shown) fun t ht => by
    obtain ⟨d, hd, rfl⟩ := List.mem_map.mp ht
    exact (h d hd).ln
  rw [List.length_map] at this
  have := Nat.mul_le_mul_right (B + 2) hn
  omega
theorem lstText_le (B : Nat) (ts : List Str) (h : ∀ t ∈ ts, t.length ≤ B) : (listText ts).length ≤ ts.length * (B + 2) + 3 := by
  have key : ∀ (ts : List Str) (k : Nat) (acc : Str), (∀ t ∈ ts, t.length ≤ B) → (textFrom k acc ts).length ≤ acc.length + ts.length * (B + 2) := by
    intro ts
    induction ts with
    | nil => intro k acc _; simp [textFrom]
    | cons t r ih =>
      intro k acc h
      have h1 := h t List.mem_cons_self
      have h2 := fun k acc => ih k acc fun x hx => h x (List.mem_cons_of_mem _ hx)
      unfold textFrom
      refine Nat.le_trans (h2 _ _) ?_
      have e2 : (((", " : String) : Str)).length = 2 := by decide
      have e0 : ((("" : String) : Str)).length = 0 := by decide
      rw [List.length_cons, Nat.succ_mul]
      split <;> simp only [lenap] <;> omega
  unfold listText
  have := key ts 0 "[" h
  have e1 : ((("[" : String) : Str)).length = 1 := by decide
  have e3 : ((("]" : String) : Str)).length = 1 := by decide
  rw [lenap]
  omega
theorem sz_lst {B k n : Nat} {ds : List PyData} (h : ∀ d ∈ ds, Sz B k d) (hn : ds.length ≤ n) : Sz (n * (B + 2) + 3) (k + 1) (.list ds) := by
  refine ⟨by simp only [PyData.showable]; exact showAll_of ds fun d hd => (h d hd).sh, ?_, by simp only [PyData.depth]; have := depthAll_le k ds fun d hd => (h d hd).dp; omega⟩
  simp only [PyData.shown]
  rw [shownAll_map]
  have := lstText_le B (ds.map PyData.shown) fun t ht => by
    obtain ⟨d, hd, rfl⟩ := List.mem_map.mp ht
    exact (h d hd).ln
  rw [List.length_map] at this
  have := Nat.mul_le_mul_right (B + 2) hn
  omega
theorem sz_dct {B k n : Nat} {ds : List (PyData × PyData)} (h : ∀ d ∈ ds, Sz B k d.1 ∧ Sz B k d.2) (hn : ds.length ≤ n) : Sz (n * (2 * B + 4) + 2) (k + 1) (.dict ds) := by
  refine ⟨by simp only [PyData.showable]; exact showKv_of _ fun d hd => ⟨(h d hd).1.sh, (h d hd).2.sh⟩, ?_, by simp only [PyData.depth]; have := depthKv_le k ds fun d hd => ⟨(h d hd).1.dp, (h d hd).2.dp⟩; omega⟩
  simp only [PyData.shown]
  rw [shownKv_map]
  have := dictText_le (2 * B + 2) (ds.map fun p => p.1.shown ++ ((": " : String) : Str) ++ p.2.shown) fun t ht => by
    obtain ⟨d, hd, rfl⟩ := List.mem_map.mp ht
    have h1 := (h d hd).1.ln
    have h2 := (h d hd).2.ln
    have e : (((": " : String) : Str)).length = 2 := by decide
    rw [lenap, lenap, e]; omega
  rw [List.length_map] at this
  have h2 := Nat.mul_le_mul_right (2 * B + 4) hn
  rw [show 2 * B + 2 + 2 = 2 * B + 4 by omega] at this
  omega
end My

set_option linter.all false
namespace My
open PySem PySem.Spec PyProof.Rows L2
/-! ### defs called where no repr is under way -/
theorem _root_.L2.Room.repr {k : Nat} {A : Around} (r : Room k A) : A.units + 111 < cLine := by have := r.un; omega
/-- a def that is called where no repr is under way -/
structure FnG (P : Program) (w : World) (K : PySem.W.Frag) (mg : Str → Option Value) (base : Heap) (k : Nat) (f : Addr) (fd : FuncData) (ps : List Str) (sp : Sp) : Prop where
  len : ∀ vs H Q E, sp vs H Q E → vs.length = ps.length
  run : ∀ (A : Around) (out : List Env) (s : Shared) (H : Hp) (args : Args) (us : List Value) (vs : List V) (Q : VK) (E : XK), A.guards = some [] → Room k A → Env0 P w K mg base A out s H → BindsTo s fd args (ps.zip us) → Vals vs us → sp vs H Q E →
    codeAny (model P w) A (.call (.ref f) args) (CR CX0 out P w H s Q E) s
theorem fng_ok {P : Program} {w : World} {K : PySem.W.Frag} {mg : Str → Option Value} {base : Heap} {x qual : Str} {st : Stmt} {f : Addr} {fd : FuncData} {N ps : List Str} {k : Nat} {sp : Sp} (F : Fun K x qual st f fd) (S : FnScope N ps (defScope st)) (len : ∀ vs H Q E, sp vs H Q E → vs.length = ps.length)
    (hbody : ∀ (cdv : Value) (A : Around) (out : List Env) (s : Shared) (H : Hp) (vs : List V) (Q : VK) (E : XK), A.guards = some [] → Room k (A.deeper (envOfC qual (defScope st) s.heap.objs.size f cdv)) → sp vs H Q E →
      ∃ t, PSs (cxOf CX0 P w K mg base N qual (defScope st) f cdv A out s H E).nox (defBody st) t ∧ t { nx := fun _ H' => Q .non H', rt := Q } (start N vs) H) : FnG P w K mg base (k + 1) f fd ps sp := by
  obtain ⟨oc, od, kV, doc, pm, an, cdv, ct, osl, rfl, lk, hcd⟩ := F.ex
  refine ⟨len, fun A out s H args us vs Q E hgd hr e0 hb r hsp => ?_⟩
  have hl := len _ _ _ _ hsp
  have KI : K.In s.heap := e0.mod.kin.keeps fun b o e => (e0.bs b o e).1
  have nl : s.heap.NoLimit := e0.mod.nolimit.keeps fun b o e => (e0.bs b o e).1
  have hk : ∀ y ∈ ps.zip us, (defScope st).names.lookup y.1 = some .local ∨ ((defScope st).names.lookup y.1 = some .cell ∧ ((cellsFrom (s.heap.objs.size + 1) (defScope st).names []).lookup y.1).isSome = true) := fun ⟨n, v⟩ hy => by
    rcases S.par n (List.of_mem_zip hy).1 with q | q
    · exact .inl q
    · exact .inr ⟨q, PySem.W.cellsFrom_some _ _ _ (.inl q)⟩
  refine codeAny_call_function hr.depth (KI _ _ lk) rfl S.co S.gen rfl (PySem.W.codeRec_of KI hcd) (hb _ _ _ _ ?_)
  refine wpAny_newFunctionEnv_cells S.kind hk fun env he s1 x => ?_
  subst he; refine ⟨nl.keeps x.toInCall.keep, codeAny_func ?_⟩
  obtain ⟨t, ht, hq⟩ := hbody cdv A out s H vs Q E hgd (hr.deeper _) hsp
  have I : Inv (cxOf CX0 P w K mg base N qual (defScope st) f cdv A out s H E) [] (start N vs) H s1 := inv_start S hr.hd e0 hl r x
  refine wpAny_mono (ht.nox.run [] s1 (start N vs) H _ I hq) (fun fl s' hs => ?_) fun e s' hs => hs
  have fin : ∀ {σ' : L2.St} {H' : Hp} {v : V} {u : Value}, Inv (cxOf CX0 P w K mg base N qual (defScope st) f cdv A out s H E) [] σ' H' s' → RelV v u → Q v H' → CE out P w H s Q u s' := fun {σ' H' v u} J rv q => ⟨v, H', J.os, J.bare, J.base, J.hok, rv, q⟩
  cases fl with
  | ret u => obtain ⟨v, σ', H', J, rv, q⟩ := hs; exact fin J rv q
  | next => obtain ⟨σ', H', J, q⟩ := hs; exact fin (v := V.non) (u := Value.none) J rfl q
  | brk => obtain ⟨_, _, _, q⟩ := hs; exact False.elim q
  | cont => obtain ⟨_, _, _, q⟩ := hs; exact False.elim q
section
variable {X : Cx} {k : Nat} {f : Addr} {fd : FuncData} {ps : List Str} {sp : Sp} {E : XK} {x : Str} {p pos : Pos} {e : Expr} {es : List Expr} {t : TA}
theorem pe_callG (F : FnG X.prog X.w X.K X.mg X.base k f fd ps sp) (hgd : X.A.guards = some []) (hr : Room k X.A) (hg : Gl X x) (hm : X.mg x = some (.ref f)) (hk : PySem.W.keepIn X.K (.ref f) = true) (hb : Binds X.K fd ps [])
    (ha : PA X (e :: es) t) (hdb : (x == ("__debug__" : Str)) = false := by decide) (he : starEach (e :: es) X.env = (false, eval e X.env) :: starEach es X.env := by rfl) (hpl : (backTo pos (starEach es X.env)).any (·.1) = false := by rfl) :
    PE X (.Call (.Name x p) (e :: es) [] pos) (tCall sp [] E0 t) := by
  refine ⟨fun pins s σ H Q I h => ?_⟩
  refine wpAny_Call_Name_kw (ld_glob I hg hm ?_ hdb)
  refine PySem.W.callWith_K (h₀ := X.base) I.ok.mod.kin hk (thn (ha.run pos pins s σ H _ I h) fun us s1 ⟨vs, H1, I1, r, q⟩ => ⟨I1.kIn, ?_⟩) he hpl
  have r2 : Vals (vs ++ []) (us ++ []) := r.append .nil
  have hl : (us ++ []).length = ps.length := by rw [← r2.length]; exact F.len _ _ _ _ q
  refine wpAny_call (codeAny_mono (F.run X.A X.stack s1 H1 ⟨us, []⟩ (us ++ []) (vs ++ []) Q E0 hgd hr I1.env0 (hb s1 us I1.kIn hl) r2 q) fun rr s' hq => ?_)
  cases rr with
  | error e => exact pass0 pins σ H1 s1 e s' I1 hq
  | ok fl =>
    cases fl with
    | ret u => exact I1.after hq
    | next => exact False.elim hq
    | brk => exact False.elim hq
    | cont => exact False.elim hq
end
abbrev sEqual : Stmt := topS 24
def spEqual (w : World) : Sp := fun vs H Q _ => ∃ (x y : V) (d e : PyData), vs = [x, y] ∧ Dx w H x d ∧ Dx w H y e ∧ (d.showable = true ∧ d.depth ≤ 100 ∧ d.shown.length ≤ sizeLine) ∧ (e.showable = true ∧ e.depth ≤ 100 ∧ e.shown.length ≤ sizeLine) ∧ Q (.bl (decide (d.shown = e.shown))) H
section
variable {P : Program} {w : World} {K : PySem.W.Frag} {mg : Str → Option Value} {base : Heap}
theorem scEqual : FnScope ["found", "due"] ["found", "due"] (defScope sEqual) := ⟨rfl, rfl, rfl, by decide +kernel, rfl, by decide +kernel, by decide +kernel⟩
theorem ok_equal {f : Addr} {fd : FuncData} (F : Fun K "_law_equal" "_law_equal" sEqual f fd) (mr : mg "repr" = none) : FnG P w K mg base 1 f fd ["found", "due"] (spEqual w) := by
  refine fng_ok F scEqual (fun vs H Q E h => ?_) (fun cdv A outer s H vs Q E hgd hr h => ?_)
  · obtain ⟨x, y, d, e, rfl, _⟩ := h
    rfl
  · obtain ⟨x, y, d, e, rfl, hd, he, ⟨d1, d2, d3⟩, ⟨e1, e2, e3⟩, k⟩ := h
    refine ⟨_, pss_one (ps_ret (pe_cmpR op_eq (pe_callB (cr_reprX hgd hr.repr) (by rfl) mr boot_repr (pa_cons (pv 0) pa_nil)) (pe_callB (cr_reprX hgd hr.repr) (by rfl) mr boot_repr (pa_cons (pv 1) pa_nil)) (nomark _))), ?_⟩
    refine ⟨_, rfl, x, d, rfl, hd, d1, d2, d3, _, rfl, y, e, rfl, he, e1, e2, e3, rfl, ?_⟩
    have e4 : decide (V.str d.shown = V.str e.shown) = decide (d.shown = e.shown) := by
      by_cases h : d.shown = e.shown
      · rw [h]; simp
      · rw [decide_eq_false h, decide_eq_false (fun z => h (V.str.inj z))]
    rw [e4]; exact k
end
end My

set_option linter.all false
namespace My
open PySem PySem.Spec PyProof.Rows L2
/-! ### drawn shared books -/
abbrev sShared : Stmt := topS 32
section
variable {X : Cx}
theorem call_lenTR : CallR X (.builtin "len") (fun xs H Q => ∃ (a : Addr) (kvs : List (List Key × V)), xs = [.ref a] ∧ Rd H a (.dT kvs) ∧ Q (.int ((kvs.length : Nat) : Int)) H) := by
  intro pins s σ H xs us Q I r h
  obtain ⟨a, kvs, rfl, ha, q⟩ := h
  obtain ⟨u, rfl, rx⟩ := vals1 r
  cases (show u = Value.ref a from rx)
  obtain ⟨z, hd, ys, rel, dd⟩ := dt_rd I.hok ha
  have hl : kvs.length = ys.length := Paired.length rel
  refine call_len_dictH hd dd (by rw [sizeLine_eq] at z; omega) ?_
  rw [← hl]
  exact ⟨.int ((kvs.length : Nat) : Int), H, I.tok _, ⟨_, rfl⟩, q⟩
end
/-! tuples stay -/
def TupG (H : Hp) : Hp := fun a => match H a with | some (.tup ys) => some (.tup ys) | _ => none
def KeepT (H H' : Hp) : Prop := ∀ a ys, H a = some (.tup ys) → H' a = some (.tup ys)
theorem tupG_at {H : Hp} {a : Addr} {ys : List V} (h : H a = some (.tup ys)) : TupG H a = some (.tup ys) := by unfold TupG; rw [h]
theorem tupG_of {H : Hp} {a : Addr} {o : HO} (h : TupG H a = some o) : ∃ ys, o = .tup ys ∧ H a = some (.tup ys) := by
  unfold TupG at h
  cases e : H a with
  | none => rw [e] at h; cases h
  | some u =>
    rw [e] at h
    cases u with
    | tup ys => cases h; exact ⟨ys, rfl, rfl⟩
    | _ => cases h
theorem KeepT.g {H H' : Hp} (k : KeepT H H') : Same (TupG H) (TupG H') := fun a o h => by
  obtain ⟨ys, rfl, e⟩ := tupG_of h
  exact tupG_at (k a ys e)
theorem tupG_sub {H : Hp} : Same (TupG H) H := fun a o h => by
  obtain ⟨ys, rfl, e⟩ := tupG_of h
  exact e
theorem KeepT.of {H H' : Hp} (e : Same H H') : KeepT H H' := fun a ys h => e _ _ h
theorem KeepT.but {p c : Addr} {t : Nat} {H H' : Hp} (P : PenD H p c t) (e : But p H H') : KeepT H H' := fun a ys h => e _ _ (fun z => by
  obtain ⟨cells, x, y, w, g, _⟩ := P.ex
  rw [z, g] at h; cases h) h
theorem KeepT.trans {H H1 H2 : Hp} (a : KeepT H H1) (b : KeepT H1 H2) : KeepT H H2 := fun c ys h => b c ys (a c ys h)
theorem KeepT.upd {H : Hp} {a : Addr} {o : HO} (n : ∀ ys, H a ≠ some (.tup ys)) : KeepT H (upd H a o) := fun c ys h => by
  rw [upd_ne (fun z => n ys (by rw [← z]; exact h))]; exact h
/-! a table from spots to parts -/
abbrev Spot := Int × Str
def tkv (M : List (Spot × Int)) : List (List Key × V) := M.map fun e => (pk e.1, V.int e.2)
def putM (M : List (Spot × Int)) (q : Spot) (v : Int) : List (Spot × Int) := if q ∈ M.map (·.1) then M.map (fun e => if e.1 = q then (e.1, v) else e) else M ++ [(q, v)]
def getM (M : List (Spot × Int)) (q : Spot) : Option Int := (M.find? fun e => decide (e.1 = q)).map (·.2)
theorem pk_inj {q r : Spot} (h : pk q = pk r) : q = r := by
  unfold pk at h
  injection h with h1 h2
  injection h2 with h2 _
  cases q; cases r
  injection h1 with h1
  injection h2 with h2
  simp_all
theorem any_tk {M : List (Spot × Int)} {q : Spot} : ((tkv M).any fun kv => decide (kv.1 = pk q)) = decide (q ∈ M.map (·.1)) := by
  unfold tkv
  rw [List.any_map]
  induction M with
  | nil => rfl
  | cons e r ih =>
    rw [List.any_cons, ih, List.map_cons]
    by_cases h : e.1 = q
    · subst h; simp
    · have h' : ¬ pk e.1 = pk q := fun z => h (pk_inj z)
      have h2 : ¬ q = e.1 := fun z => h z.symm
      simp [h', h2]
theorem put_tk {M : List (Spot × Int)} {q : Spot} {v : Int} : putK (tkv M) (pk q) (.int v) = tkv (putM M q v) := by
  unfold putK putM
  rw [any_tk]
  by_cases h : q ∈ M.map (·.1)
  · rw [if_pos (decide_eq_true h), if_pos h]
    unfold tkv
    rw [List.map_map, List.map_map]
    refine List.map_congr_left fun e _ => ?_
    by_cases c : e.1 = q
    · simp [c]
    · have c' : ¬ pk e.1 = pk q := fun z => c (pk_inj z)
      simp [c, c']
  · rw [if_neg (by rw [decide_eq_false h]; exact Bool.false_ne_true), if_neg h]
    unfold tkv
    rw [List.map_append]; rfl
theorem val_tk {M : List (Spot × Int)} {q : Spot} : valV (tkv M) (pk q) = (getM M q).map V.int := by
  unfold valV getM tkv
  induction M with
  | nil => rfl
  | cons e r ih =>
    rw [List.map_cons, List.find?_cons, List.find?_cons]
    by_cases c : e.1 = q
    · simp [c]
    · have c' : ¬ pk e.1 = pk q := fun z => c (pk_inj z)
      simp only [c, c', decide_false]
      exact ih
def sumM (M : List (Spot × Int)) : Int := (M.map (·.2)).sum
structure PM (b : Int) (ns : List Str) (M : List (Spot × Int)) : Prop where
  nod : (M.map (·.1)).Nodup
  ok : ∀ e ∈ M, (0 ≤ e.1.1 ∧ e.1.1 < b ∧ e.1.2 ∈ ns) ∧ 0 < e.2
theorem getM_none {M : List (Spot × Int)} {q : Spot} (h : q ∉ M.map (·.1)) : getM M q = none := by
  unfold getM
  rw [List.find?_eq_none.mpr fun e he z => h (List.mem_map.mpr ⟨e, he, of_decide_eq_true z⟩)]; rfl
theorem getM_cons {e : Spot × Int} {r : List (Spot × Int)} {q : Spot} : getM (e :: r) q = if e.1 = q then some e.2 else getM r q := by
  unfold getM
  rw [List.find?_cons]
  by_cases c : e.1 = q
  · simp [c]
  · simp [c]
theorem getM_in {M : List (Spot × Int)} {q : Spot} (h : q ∈ M.map (·.1)) : ∃ v, getM M q = some v ∧ (q, v) ∈ M := by
  induction M with
  | nil => cases h
  | cons e r ih =>
    rw [getM_cons]
    by_cases c : e.1 = q
    · rw [if_pos c]; exact ⟨e.2, rfl, by rw [← c]; exact List.mem_cons_self⟩
    · rw [if_neg c]
      rw [List.map_cons] at h
      rcases List.mem_cons.mp h with h | h
      · exact absurd h.symm c
      · obtain ⟨v, h1, h2⟩ := ih h
        exact ⟨v, h1, List.mem_cons_of_mem _ h2⟩
theorem getM_mem {M : List (Spot × Int)} {e : Spot × Int} (nd : (M.map (·.1)).Nodup) (h : e ∈ M) : getM M e.1 = some e.2 := by
  induction M with
  | nil => cases h
  | cons x r ih =>
    rw [List.map_cons] at nd
    have nd' := List.nodup_cons.mp nd
    rw [getM_cons]
    rcases List.mem_cons.mp h with rfl | h
    · rw [if_pos rfl]
    · rw [if_neg (fun z => nd'.1 (by rw [z]; exact List.mem_map.mpr ⟨e, h, rfl⟩))]
      exact ih nd'.2 h
theorem putM_keys {M : List (Spot × Int)} {q : Spot} {v : Int} : (putM M q v).map (·.1) = if q ∈ M.map (·.1) then M.map (·.1) else M.map (·.1) ++ [q] := by
  unfold putM
  by_cases h : q ∈ M.map (·.1)
  · rw [if_pos h, if_pos h, List.map_map]
    refine List.map_congr_left fun e _ => ?_
    by_cases c : e.1 = q
    · simp [c]
    · simp [c]
  · rw [if_neg h, if_neg h, List.map_append]; rfl
theorem sum_modM {q : Spot} {v : Int} : ∀ {M : List (Spot × Int)}, (M.map (·.1)).Nodup → sumM (M.map fun e => if e.1 = q then (e.1, v) else e) = sumM M + (if q ∈ M.map (·.1) then v - (getM M q).getD 0 else 0)
  | [], _ => rfl
  | e :: r, nd => by
    rw [List.map_cons] at nd
    have nd' := List.nodup_cons.mp nd
    have ih := sum_modM (q := q) (v := v) nd'.2
    rw [getM_cons]
    show ((if e.1 = q then (e.1, v) else e).2 + sumM (r.map fun e => if e.1 = q then (e.1, v) else e)) = (e.2 + sumM r) + _
    rw [ih, List.map_cons]
    by_cases c : e.1 = q
    · have n : q ∉ r.map (·.1) := by rw [← c]; exact nd'.1
      rw [if_pos c, if_pos c, if_neg n, if_pos (by rw [c]; exact List.mem_cons_self)]
      show v + (sumM r + 0) = e.2 + sumM r + (v - e.2)
      omega
    · rw [if_neg c, if_neg c]
      by_cases n : q ∈ r.map (·.1)
      · rw [if_pos n, if_pos (List.mem_cons_of_mem _ n)]; omega
      · rw [if_neg n, if_neg (fun z => by
          rcases List.mem_cons.mp z with z | z
          · exact c z.symm
          · exact n z)]; omega
theorem PM.put {b : Int} {ns : List Str} {M : List (Spot × Int)} (P : PM b ns M) {q : Spot} (hq : 0 ≤ q.1 ∧ q.1 < b ∧ q.2 ∈ ns) {x : Int} (hx : 0 < x) :
    PM b ns (putM M q ((getM M q).getD 0 + x)) ∧ sumM (putM M q ((getM M q).getD 0 + x)) = sumM M + x ∧ (putM M q ((getM M q).getD 0 + x)).length ≤ M.length + 1 := by
  by_cases h : q ∈ M.map (·.1)
  · obtain ⟨v, hv, hm⟩ := getM_in h
    have v0 := (P.ok _ hm).2
    refine ⟨⟨by rw [putM_keys, if_pos h]; exact P.nod, fun e he => ?_⟩, ?_, ?_⟩
    · unfold putM at he
      rw [if_pos h] at he
      obtain ⟨d, hd, rfl⟩ := List.mem_map.mp he
      by_cases c : d.1 = q
      · rw [if_pos c]
        refine ⟨(P.ok d hd).1, ?_⟩
        rw [hv]
        show 0 < v + x
        have : 0 < v := v0
        omega
      · rw [if_neg c]; exact P.ok d hd
    · unfold putM
      rw [if_pos h, sum_modM P.nod, if_pos h]
      omega
    · unfold putM
      rw [if_pos h, List.length_map]; omega
  · rw [getM_none h]
    refine ⟨⟨by rw [putM_keys, if_neg h]; exact List.nodup_append.mpr ⟨P.nod, by simp, fun a ha b hb e => h (by rw [← List.mem_singleton.mp hb, ← e]; exact ha)⟩, fun e he => ?_⟩, ?_, ?_⟩
    · unfold putM at he
      rw [if_neg h] at he
      rcases List.mem_append.mp he with he | he
      · exact P.ok e he
      · rw [List.mem_singleton.mp he]
        exact ⟨hq, by show 0 < (0 : Int) + x; omega⟩
    · unfold putM sumM
      rw [if_neg h, List.map_append, List.sum_append]
      show _ + (0 + x + 0) = _
      omega
    · unfold putM
      rw [if_neg h, List.length_append]; exact Nat.le_refl _
/-! shares in lowest terms -/
def mkT (W : Int) (e : Spot × Int) : PyData := .tuple [.int e.1.1, .str e.1.2, .tuple [.int (e.2 / gL e.2 W), .int (W / gL e.2 W)]]
/-- a row of a shared book, by the shares that it was made of -/
structure SRow (b : Int) (ns : List Str) (row : List PyData) : Prop where
  ex : ∃ (S : List (Spot × Int)) (W : Int), row = S.map (mkT W) ∧ S.Nodup ∧ (∀ e ∈ S, (0 ≤ e.1.1 ∧ e.1.1 < b ∧ e.1.2 ∈ ns) ∧ 0 < e.2 ∧ e.2 ≤ W) ∧ sumM S = W ∧ 0 < W ∧ W ≤ 60 ∧ S.length ≤ 12 ∧ S ≠ [] ∧ row.Pairwise fun x y => PySem.W.dataLt y x = false
theorem mkT_alike (W : Int) (e f : Spot × Int) : PySem.W.alike (mkT W e) (mkT W f) = true := by
  simp [mkT, PySem.W.alike, PySem.W.alikeAll]
end My

set_option linter.all false
namespace My
open PySem PySem.Spec PyProof.Rows L2
theorem keepT2 {p U : Addr} {H H' : Hp} (hp : ∀ ys, H p ≠ some (.tup ys)) (hU : ∀ ys, H U ≠ some (.tup ys)) (k : ∀ a o, a ≠ p → a ≠ U → H a = some o → H' a = some o) : KeepT H H' := fun a ys h => k a _ (fun z => hp ys (by rw [← z]; exact h)) (fun z => hU ys (by rw [← z]; exact h)) h
theorem penD_nt {H : Hp} {p c : Addr} {t : Nat} (P : PenD H p c t) : ∀ ys, H p ≠ some (.tup ys) := fun ys h => by
  obtain ⟨cells, x, y, z, g, _⟩ := P.ex
  rw [g] at h; cases h
theorem sum_rng : ∀ {l : List Int}, (∀ y ∈ l, 1 ≤ y ∧ y ≤ 5) → (l.length : Int) ≤ l.sum ∧ l.sum ≤ 5 * (l.length : Int)
  | [], _ => ⟨by simp, by simp⟩
  | x :: r, h => by
    have ih := sum_rng (l := r) fun y hy => h y (List.mem_cons_of_mem _ hy)
    have hx := h x List.mem_cons_self
    rw [List.sum_cons, List.length_cons, Int.natCast_add]
    constructor <;> (simp only [Int.natCast_one]; omega)
theorem sum_perm {a b : List Int} (h : a.Perm b) : a.sum = b.sum := by
  induction h with
  | nil => rfl
  | cons x _ ih => rw [List.sum_cons, List.sum_cons, ih]
  | swap x y l => rw [List.sum_cons, List.sum_cons, List.sum_cons, List.sum_cons]; omega
  | trans _ _ i j => exact i.trans j
theorem sumM_app (A B : List (Spot × Int)) : sumM (A ++ B) = sumM A + sumM B := by unfold sumM; rw [List.map_append, List.sum_append]
theorem le_sumM : ∀ {M : List (Spot × Int)}, (∀ e ∈ M, 0 < e.2) → 0 ≤ sumM M ∧ ∀ e ∈ M, e.2 ≤ sumM M
  | [], _ => ⟨Int.le_refl 0, fun _ h => nomatch h⟩
  | x :: r, h => by
    obtain ⟨i1, i2⟩ := le_sumM (M := r) fun y hy => h y (List.mem_cons_of_mem _ hy)
    have hx := h x List.mem_cons_self
    have e : sumM (x :: r) = x.2 + sumM r := rfl
    refine ⟨by omega, fun y hy => ?_⟩
    rcases List.mem_cons.mp hy with rfl | hy
    · omega
    · have := i2 y hy; omega
/-- the shares of the first entries -/
structure SF (qq : Nat) (Mj : List (Spot × Int)) (W : Int) (S : List (Spot × Int)) : Prop where
  nod : S.Nodup
  ok : ∀ e ∈ S, e.1 ∈ Mj.map (·.1) ∧ 0 < e.2 ∧ e.2 ≤ W
  sum : sumM S = sumM Mj
  len : S.length ≤ qq * Mj.length
theorem SF.one {qq : Nat} {M S : List (Spot × Int)} {W : Int} {j : Nat} {e : Spot × Int} {sh : List Int} (h : SF qq (M.take j) W S) (hq : 1 ≤ qq) (nd : (M.map (·.1)).Nodup) (he : M[j]? = some e) (e0 : 0 < e.2) (eW : e.2 ≤ W) (hs : sh = [e.2] ∨ (sh = [1, e.2 - 1] ∧ 2 < e.2 ∧ qq = 2)) : SF qq (M.take (j + 1)) W (S ++ sh.map fun x => (e.1, x)) := by
  have hj : j < M.length := (List.getElem?_eq_some_iff.mp he).1
  have etk : M.take (j + 1) = M.take j ++ [e] := by rw [List.take_add_one, he]; rfl
  have new : e.1 ∉ (M.take j).map (·.1) := by
    intro z
    rw [List.map_take] at z
    obtain ⟨m, hm⟩ := List.mem_iff_getElem?.mp z
    rw [List.getElem?_take] at hm
    by_cases c : m < j
    · rw [if_pos c] at hm
      have h2 : (M.map (·.1))[j]? = some e.1 := by rw [List.getElem?_map, he]; rfl
      have := (List.getElem?_inj (by rw [List.length_map]; omega) nd).mp (hm.trans h2.symm)
      omega
    · rw [if_neg c] at hm; cases hm
  have shp : (∀ x ∈ sh, 0 < x ∧ x ≤ W) ∧ sh.sum = e.2 ∧ sh.Nodup ∧ sh.length ≤ qq := by
    rcases hs with rfl | ⟨rfl, h2⟩
    · exact ⟨fun x hx => by rw [List.mem_singleton.mp hx]; exact ⟨e0, eW⟩, by simp, by simp, by simp; omega⟩
    · obtain ⟨h2, rfl⟩ := h2
      refine ⟨fun x hx => ?_, by simp; omega, by simp; omega, by simp⟩
      simp only [List.mem_cons, List.not_mem_nil, or_false] at hx
      rcases hx with rfl | rfl <;> omega
  obtain ⟨p1, p2, p3, p4⟩ := shp
  have sm : sumM (sh.map fun x => (e.1, x)) = sh.sum := by
    unfold sumM
    rw [List.map_map]
    have : (fun x : Int => ((e.1, x) : Spot × Int).2) = id := rfl
    show (sh.map fun x : Int => ((e.1, x) : Spot × Int).2).sum = _
    rw [this, List.map_id]
  rw [etk]
  refine ⟨?_, fun d hd => ?_, by rw [sumM_app, sumM_app, h.sum, sm, p2]; show _ = _ + (e.2 + 0); omega, by rw [List.length_append, List.length_append, List.length_map]; have := h.len; show _ ≤ qq * (_ + 1); rw [Nat.mul_add, Nat.mul_one]; omega⟩
  · refine List.nodup_append.mpr ⟨h.nod, List.Pairwise.map _ (fun a b ne z => ne (by injection z)) p3, fun a ha b hb z => ?_⟩
    obtain ⟨x, _, rfl⟩ := List.mem_map.mp hb
    rw [z] at ha
    exact new (h.ok _ ha).1
  · rw [List.map_append]
    rcases List.mem_append.mp hd with hd | hd
    · exact ⟨List.mem_append_left _ (h.ok d hd).1, (h.ok d hd).2⟩
    · obtain ⟨x, hx, rfl⟩ := List.mem_map.mp hd
      exact ⟨List.mem_append_right _ (by simp), p1 x hx⟩
theorem dxall_mem {w : World} {G : Hp} : ∀ {zs : List (V × PyData)}, (∀ z ∈ zs, Dx w G z.1 z.2) → DxAll w G (zs.map (·.1)) (zs.map (·.2))
  | [], _ => .nil
  | z :: zs, h => .cons (h z List.mem_cons_self) (dxall_mem fun y hy => h y (List.mem_cons_of_mem _ hy))
theorem le_trans' {β : Type} (k : β → PyData) (a b c : β) (h1 : PySem.W.dataLe false k a b = true) (h2 : PySem.W.dataLe false k b c = true) : PySem.W.dataLe false k a c = true := by
  rw [PySem.W.dataLe_eq] at h1 h2 ⊢
  have g1 : PySem.W.dataLt (k b) (k a) = false := by simpa using h1
  have g2 : PySem.W.dataLt (k c) (k b) = false := by simpa using h2
  have : PySem.W.dataLt (k c) (k a) = false := KeyOrd.kle_trans (O := listOrd itemOrd) g1 g2
  show (!PySem.W.dataLt (k c) (k a)) = true
  rw [this]; rfl
theorem le_total' {β : Type} (k : β → PyData) (a b : β) : (PySem.W.dataLe false k a b || PySem.W.dataLe false k b a) = true := by
  rw [PySem.W.dataLe_eq]
  show (!PySem.W.dataLt (k b) (k a) || !PySem.W.dataLt (k a) (k b)) = true
  cases h : PySem.W.dataLt (k b) (k a) with
  | false => rfl
  | true =>
    have : PySem.W.dataLt (k a) (k b) = false := KeyOrd.klt_asymm (O := listOrd itemOrd) h
    rw [this]; rfl
def spShared (w : World) : Sp := fun vs H Q _ => ∃ (p c : Addr) (b : Int) (many most t : Nat), vs = [.ref p, .int b, .int many, .int most] ∧ 2 ≤ b ∧ b ≤ 10 ∧ 1 ≤ many ∧ many ≤ 8 ∧ 1 ≤ most ∧ most ≤ 12 ∧ PenD H p c t ∧ t + 800 < 2 ^ 29 ∧
  ∀ (bk rr : Addr) (ns : List Str) (rows : List (List PyData)) (kvs : List (Key × V)) (H' : Hp), But p H H' → PenD H' p c (t + 700) → H rr = none → H' bk = some (.tup [.int b, .ref rr]) → H' rr = some (.dK kvs) → kvs.map (·.1) = ns.map Sum.inr → NamesOk ns many →
    DxAll w (TupG H') (kvs.map (·.2)) (rows.map PyData.tuple) → rows.length = ns.length → (∀ row ∈ rows, SRow b ns row) → Q (.ref bk) H'
structure TxS (mg : Str → Option Value) : Prop where
  len : mg "len" = none
  range : mg "range" = none
  tuple : mg "tuple" = none
  sorted : mg "sorted" = none
  sum : mg "sum" = none
section
variable {P : Program} {w : World} {K : PySem.W.Frag} {mg : Str → Option Value} {base : Heap}
theorem scShared : FnScope ["pen", "base", "many", "most", "names", "rows", "name", "parts", "triples", "part", "spot", "whole", "told", "shares", "k", "share"] ["pen", "base", "many", "most"] (defScope sShared) := ⟨rfl, rfl, rfl, by decide +kernel, rfl, by decide +kernel, by decide +kernel⟩
theorem ok_shared {f fT fOn fSn fLo : Addr} {fd fdT fdOn fdSn fdLo : FuncData} (F : Fun K "_law_shared" "_law_shared" sShared f fd) (T : TxS mg)
    (FT : Fun K "_law_draw" "_law_draw" sDraw fT fdT) (GT : FnOk P w K mg base CX0 2 fT fdT ["pen", "many"] spDraw) (bT : Binds K fdT ["pen", "many"] []) (gT : mg "_law_draw" = some (.ref fT))
    (FOn : Fun K "_law_one_of" "_law_one_of" sOneOf fOn fdOn) (GOn : FnOk P w K mg base CX0 3 fOn fdOn ["pen", "some"] spOneOf) (bOn : Binds K fdOn ["pen", "some"] []) (gOn : mg "_law_one_of" = some (.ref fOn))
    (FSn : Fun K "_law_some_names" "_law_some_names" sSome fSn fdSn) (GSn : FnOk P w K mg base CX0 4 fSn fdSn ["pen", "many"] spSome) (bSn : Binds K fdSn ["pen", "many"] []) (gSn : mg "_law_some_names" = some (.ref fSn))
    (FLo : Fun K "_law_lowest" "_law_lowest" sLow fLo fdLo) (GLo : FnOk P w K mg base CX0 1 fLo fdLo ["top", "below"] spLow) (bLo : Binds K fdLo ["top", "below"] []) (gLo : mg "_law_lowest" = some (.ref fLo)) :
    FnOk P w K mg base CX0 5 f fd ["pen", "base", "many", "most"] (spShared w) := by
  refine F.ok scShared (fun vs H Q E h => ?_) (fun cdv A outer s H vs Q E hr h => ?_)
  · obtain ⟨p, c, b, many, most, t, rfl, _⟩ := h
    rfl
  · obtain ⟨p, c, b, many, most, t, rfl, b0, b1, my1, my8, mo1, mo6, C, tt, k⟩ := h
    have hr4 := hr
    have hr3 : Room 3 _ := hr.mono (by decide)
    have hr2 : Room 2 _ := hr.mono (by decide)
    have hr1 : Room 1 _ := hr.mono (by decide)
    have hu1 := Nat.lt_trans (Nat.add_lt_add_left (show 1 < 64 by decide) _) hr.units
    refine ⟨_, (pss_cons (ps_set (i := 4) scShared.nd rfl (Or.inl rfl) (pe_call GSn hr4 (by rfl) gSn FSn.kp bSn .nil pass0 (pa_cons (pv 0) (pa_cons (pv 2) pa_nil))))
      (pss_cons (ps_set (i := 5) scShared.nd rfl (Or.inl rfl) pe_dnewK)
      (pss_cons (ps_for PassesOwn.never rfl (pi_list (pv 4)) (pg_name (i := 6) scShared.nd rfl (Or.inl rfl)) (pss_cons (ps_setLc (i := 7) (own := [("k", 14)]) (g := gName 14) (tt := tYes) rfl scShared.nd rfl (by rfl) (sw_true (by rfl) (by rfl) (by rfl) (by rfl)) (pi_range1 (by rfl) T.range (pa_cons (pe_op op_add pe_int (pe_call GT hr2 (by rfl) gT FT.kp bT .nil pass0 (pa_cons (pv 0) (pa_cons (pv 3) pa_nil)))) pa_nil)) (blkOk_by (N := ["pen", "base", "many", "most", "names", "rows", "name", "parts", "triples", "part", "spot", "whole", "told", "shares", "k", "share"]) (sc := defScope sShared) (by decide +kernel)) (fun _ _ _ _ _ => (pg_name (i := 14) scShared.nd rfl (Or.inl rfl))) (fun _ _ _ _ _ => pts_nil) (fun _ _ _ _ _ => (pe_op op_add pe_int (pe_call GT hr2 (by rfl) gT FT.kp bT .nil pass0 (pa_cons (pv 0) (pa_cons pe_int pa_nil))))))
      (pss_cons (ps_set (i := 8) scShared.nd rfl (Or.inl rfl) pe_dnewT)
      (pss_cons (ps_for PassesOwn.never rfl (pi_list (pv 7)) (pg_name (i := 9) scShared.nd rfl (Or.inl rfl)) (pss_cons (ps_set (i := 10) scShared.nd rfl (Or.inr rfl) (pe_tupS (pa_cons (pe_call GT hr2 (by rfl) gT FT.kp bT .nil pass0 (pa_cons (pv 0) (pa_cons (pv 1) pa_nil))) (pa_cons (pe_call GOn hr3 (by rfl) gOn FOn.kp bOn .nil pass0 (pa_cons (pv 0) (pa_cons (pv 4) pa_nil))) pa_nil))))
      (pss_one (ps_dput hu1 (pv 8) (pv 10) (pe_op op_add (pe_dget2 hu1 (pv 8) (pv 10) pe_int ⟨by rfl, by rfl, by rfl, by rfl⟩) (pv 9)) rfl))))
      (pss_cons (ps_set (i := 11) scShared.nd rfl (Or.inr rfl) (pe_callB (cr_sum rfl) (by rfl) T.sum boot_sum (pa_cons (pv 7) pa_nil)))
      (pss_cons (ps_set (i := 12) scShared.nd rfl (Or.inl rfl) (pe_lst pa_nil))
      (pss_cons (ps_lock (ps_for PassesOwn.never rfl (pi_keys (pv 8)) (pg_name (i := 10) scShared.nd rfl (Or.inr rfl)) (pss_cons (ps_set (i := 9) scShared.nd rfl (Or.inl rfl) (pe_dget hu1 (pv 8) (pv 10) (fun _ _ => rfl)))
      (C8.pss_cut (ps_set (i := 13) scShared.nd rfl (Or.inl rfl) (pe_ifExp (PW.pt (pw_and (pt_cmpR op_gt (pv 9) pe_int (nomark _)) (pw_and (pt_cmpR op_lt (pe_callB call_lenTR (by rfl) T.len PySem.boot_len (pa_cons (pv 8) pa_nil)) pe_int (nomark _)) (pw_and1 (pt_cmpR op_eq (pe_call GT hr2 (by rfl) gT FT.kp bT .nil pass0 (pa_cons (pv 0) (pa_cons pe_int pa_nil))) pe_int (nomark _)))))) (pe_lstS (pa_cons pe_int (pa_cons (pe_op op_sub (pv 9) pe_int) pa_nil))) (pe_lstS (pa_cons (pv 9) pa_nil))))
      (pss_one (ps_set (i := 12) scShared.nd rfl (Or.inl rfl) (pe_op op_cat (pv 12) (pe_lc (own := [("share", 15)]) (g := gName 15) (tt := tYes) rfl scShared.nd (pi_list (pv 13)) (blkOk_by (N := ["pen", "base", "many", "most", "names", "rows", "name", "parts", "triples", "part", "spot", "whole", "told", "shares", "k", "share"]) (sc := defScope sShared) (by decide +kernel)) (fun _ _ _ _ _ => (pg_name (i := 15) scShared.nd rfl (Or.inl rfl))) (fun _ _ _ _ _ => pts_nil) (fun _ _ _ _ _ => (pe_op (show OpR _ _ rCatG from op_catG) (pv 10) (pe_tupS (pa_cons (pe_call GLo hr1 (by rfl) gLo FLo.kp bLo .nil pass0 (pa_cons (pv 15) (pa_cons (pv 11) pa_nil))) pa_nil))))))))))))
      (pss_one (ps_dput hu1 (pv 5) (pv 6) (pe_callTy call_tuple_of (by rfl) T.tuple boot_tuple (pa_cons (pe_callB (cr_sortedX hr.units) (by rfl) T.sorted boot_sorted (pa_cons (pv 12) pa_nil)) pa_nil)) rfl)))))))))
      (pss_one (ps_ret (pe_tupS (pa_cons (pv 1) (pa_cons (pv 5) pa_nil)))))))), ?_⟩
    refine ⟨_, rfl, _, rfl, p, c, many, t, rfl, my8, C, by omega, fun ln ns H1 nok nln b1' C1 hln => ?_⟩
    have lnp : ln ≠ p := C.not nln
    have n0 : 0 < ns.length := by rw [nok.len]; exact my1
    intro r nr
    have rp : r ≠ p := C1.not nr
    have rc : r ≠ c := fun z => C1.at_c (by rw [← z]; exact nr)
    have rl : r ≠ ln := fun z => by rw [← z, nr] at hln; cases hln
    have s0 : Same H1 (upd H1 r (.dK [])) := Same.upd nr
    refine ⟨_, rfl, ln, rfl, ⟨_, SqL.of (s0 _ _ hln)⟩, for_it (walk_list (K := K) (a := ln) (xs := ns.map V.str)) (fun i σ H2 => (∃ y6 y7 y8 y9 y10 y11 y12 y13 : Option V, σ = [some (.ref p), some (.int b), some (.int many), some (.int most), some (.ref ln), some (.ref r), y6, y7, y8, y9, y10, y11, y12, y13, none, none]) ∧ i ≤ ns.length ∧ PenD H2 p c (t + 100 + 60 * i) ∧
      (∀ a o, a ≠ p → a ≠ r → H1 a = some o → H2 a = some o) ∧ ∃ (kvs : List (Key × V)) (rows : List (List PyData)), H2 r = some (.dK kvs) ∧ kvs.map (·.1) = (ns.take i).map Sum.inr ∧ DxAll w (TupG H2) (kvs.map (·.2)) (rows.map PyData.tuple) ∧ rows.length = i ∧ ∀ row ∈ rows, SRow b ns row) ?_ ?_ ?_ ?_⟩
    · exact ⟨⟨_, _, _, _, _, _, _, _, rfl⟩, Nat.zero_le _, C1.agree rp rc (fun a ha => upd_ne ha) (by omega), fun a o _ ha e => by rw [upd_ne ha]; exact e, [], [], upd_same, rfl, .nil, rfl, fun _ h => nomatch h⟩
    · rintro i σ H2 _ ⟨_, _, _, kp, _⟩
      exact SqL.of (kp _ _ lnp rl.symm hln)
    · rintro i x σ H2 H3 hi ⟨⟨y6, y7, y8, y9, y10, y11, y12, y13, rfl⟩, hin, C2, kp, kvs, rows, hrk, hks, hdx, hrl, hrow⟩ ⟨rfl, hx⟩
      rw [List.length_map] at hi
      have nl8 : ns.length ≤ 8 := by rw [nok.len]; exact my8
      obtain ⟨nm, hnm, rfl⟩ : ∃ nm, ns[i]? = some nm ∧ x = .str nm := by
        rw [List.getElem?_map, List.getElem?_eq_getElem hi] at hx
        exact ⟨ns[i], List.getElem?_eq_getElem hi, (Option.some.inj hx).symm⟩
      -- parts
      refine ⟨_, rfl, _, rfl, p, c, (most : Int), _, rfl, by omega, small_int (by omega) (by omega), C2, by omega, fun d H4 d0 d1 b4 C4 => ⟨_, _, rfl, rfl, _, rfl, by omega, by omega, fun D nD => ?_⟩⟩
      have Dp : D ≠ p := C4.not nD
      have Dc : D ≠ c := fun z => C4.at_c (by rw [← z]; exact nD)
      refine lc_it (walk_range (lo := 0) (n := (1 + d).toNat)) (fun j Hi => PenD Hi p c (t + 101 + 60 * i + j) ∧ j ≤ 12 ∧ (∀ a o, a ≠ p → H4 a = some o → Hi a = some o) ∧ ∃ l : List Int, l.length = j ∧ (∀ y ∈ l, 1 ≤ y ∧ y ≤ 5) ∧ Hi D = some (.lst (l.map V.int)))
        ⟨C4.agree Dp Dc (fun a ha => upd_ne ha) (by omega), by omega, (fun a o _ e => by rw [upd_ne (ne_of_none e nD)]; exact e), [], rfl, (fun _ h => nomatch h), upd_same⟩ (fun _ _ _ _ => trivial) ?_ ?_
      · rintro j x Hi Hj hj ⟨C5, _, b5, l, ll, hl, hD⟩ ⟨rfl, hx⟩
        refine ⟨rfl, ?_⟩
        refine ⟨_, rfl, p, c, 5, _, rfl, by decide, by decide, C5, by omega, fun z H6 z0 z1 b6 C6 => ⟨_, _, rfl, rfl, ?_⟩⟩
        refine ⟨_, b6 _ _ Dp hD, by rw [List.length_map, sizeLine_eq]; omega, C6.agree Dp Dc (fun a ha => upd_ne ha) (by omega), by omega, fun a o ha e => by rw [upd_ne (ne_of_none e nD)]; exact b6 _ _ ha (b5 _ _ ha e), l ++ [1 + z], by rw [List.length_append, ll]; rfl, fun y hy => ?_, by rw [upd_same, List.map_append]; rfl⟩
        rcases List.mem_append.mp hy with h | h
        · exact hl y h
        · rw [List.mem_singleton.mp h]; omega
      rintro H5 ⟨C5, _, b5, l, ll, hl, hD5⟩
      have l1 : 1 ≤ l.length := by omega
      have l6 : l.length ≤ 12 := by omega
      have b25 : ∀ a o, a ≠ p → H3 a = some o → H5 a = some o := fun a o ha e => b5 _ _ ha (b4 _ _ ha e)
      have hr5 := b25 _ _ rp hrk
      have hln5 := b25 _ _ lnp (kp _ _ lnp rl.symm hln)
      have Dr : D ≠ r := (ne_of_none (b4 _ _ rp hrk) nD).symm
      -- triples
      intro U nU
      have Up : U ≠ p := C5.not nU
      have Uc : U ≠ c := fun z => C5.at_c (by rw [← z]; exact nU)
      have Ur : U ≠ r := (ne_of_none hr5 nU).symm
      have Uln : U ≠ ln := (ne_of_none hln5 nU).symm
      have UD : U ≠ D := (ne_of_none hD5 nU).symm
      refine ⟨_, rfl, D, rfl, ⟨_, SqL.of ((Same.upd nU) _ _ hD5)⟩, for_it (walk_list (K := K) (a := D) (xs := l.map V.int)) (fun j σ Hj => (∃ x9 x10 : Option V, σ = [some (.ref p), some (.int b), some (.int many), some (.int most), some (.ref ln), some (.ref r), some (.str nm), some (.ref D), some (.ref U), x9, x10, y11, y12, y13, none, none]) ∧ j ≤ 12 ∧ PenD Hj p c (t + 115 + 60 * i + 2 * j) ∧
        (∀ a o, a ≠ p → a ≠ U → H5 a = some o → Hj a = some o) ∧ ∃ M : List (Spot × Int), Hj U = some (.dT (tkv M)) ∧ PM b ns M ∧ sumM M = (l.take j).sum ∧ M.length ≤ j) ?_ ?_ ?_ ?_⟩
      · exact ⟨⟨_, _, rfl⟩, by omega, C5.agree Up Uc (fun a ha => upd_ne ha) (by omega), fun a o _ ha e => by rw [upd_ne ha]; exact e, [], upd_same, ⟨List.nodup_nil, fun _ h => nomatch h⟩, rfl, Nat.le_refl _⟩
      · rintro j σ Hj _ ⟨_, _, _, kj, _⟩
        exact SqL.of (kj _ _ Dp UD.symm hD5)
      · rintro j x σ Hj Hj' hj ⟨⟨x9, x10, rfl⟩, _, Cj, kj, M, hM, PMM, sM, lM⟩ ⟨rfl, hx⟩
        rw [List.length_map] at hj
        obtain ⟨pt, hpt, rfl⟩ : ∃ pt, l[j]? = some pt ∧ x = .int pt := by
          rw [List.getElem?_map, List.getElem?_eq_getElem hj] at hx
          exact ⟨l[j], List.getElem?_eq_getElem hj, (Option.some.inj hx).symm⟩
        have hlnj := kj _ _ lnp Uln.symm hln5
        refine ⟨_, rfl, _, rfl, p, c, b, _, rfl, by omega, small_int (by omega) (by omega), Cj, by omega, fun g H6 g0 g1 b6 C6 => ?_⟩
        have hln6 := b6 _ _ lnp hlnj
        refine ⟨_, rfl, _, rfl, p, c, _, .ref ln, rfl, C6, by omega, .inl ⟨ln, _, rfl, lnp, hln6, (fun z => by have h := congrArg List.length z; rw [List.length_map, List.length_nil] at h; omega), by rw [List.length_map]; omega, fun v H7 vin b7 C7 => ?_⟩⟩
        obtain ⟨x, xin, rfl⟩ := List.mem_map.mp vin
        refine ⟨(by show 2 ≤ sizeLine; decide), fun sq H8 s8 hsq => ?_⟩
        have hU8 := s8 _ _ (b7 _ _ Up (b6 _ _ Up hM))
        have ev : ((valV (tkv M) (pk (g, x))).getD (.int 0)) = .int ((getM M (g, x)).getD 0) := by rw [val_tk]; cases getM M (g, x) <;> rfl
        refine ⟨_, rfl, U, rfl, .inr ⟨_, .inl hU8⟩, _, rfl, _, DGet.t (k := pk (g, x)) hU8 hsq, _, rfl, _, _, ev, rfl, _, rfl, _, rfl, U, _, rfl, DPut.t (k := pk (g, x)) hU8 hsq (by unfold tkv; rw [List.length_map, sizeLine_eq]; omega), ?_⟩
        rw [put_tk]
        have pq := PMM.put (q := (g, x)) ⟨g0, g1, xin⟩ (x := pt) (by have := (hl pt (List.mem_of_getElem? hpt)).1; omega)
        have ag : ∀ a, a ≠ U → upd H8 U (.dT (tkv (putM M (g, x) ((getM M (g, x)).getD 0 + pt)))) a = H8 a := fun a ha => upd_ne ha
        refine ⟨⟨_, _, rfl⟩, by omega, (C7.same s8 (Nat.le_refl _)).agree Up Uc ag (by omega), fun a o h1 h2 e => by rw [ag a h2]; exact s8 _ _ (b7 _ _ h1 (b6 _ _ h1 (kj a o h1 h2 e))), _, upd_same, pq.1, ?_, by have := pq.2.2; omega⟩
        rw [pq.2.1, sM, List.take_add_one, hpt, List.sum_append]; simp
      rintro σ H6 ⟨⟨x9, x10, rfl⟩, _, C6, k6, M, hM, PMM, sM, lM⟩
      rw [List.length_map] at sM lM C6
      rw [List.take_length] at sM
      have hD6 := k6 _ _ Dp UD.symm hD5
      -- whole, told
      refine ⟨_, rfl, D, l, rfl, SqL.of hD6, ?_⟩
      refine ⟨(by show 0 ≤ sizeLine; decide), fun t0 nt0 => ?_⟩
      generalize hW : l.sum = W at sM
      have WR := sum_rng hl
      rw [hW] at WR
      have W1 : 1 ≤ W := by omega
      have W30 : W ≤ 60 := by omega
      have s7 : Same H6 (upd H6 t0 (.lst [])) := Same.upd nt0
      have ht0 : (upd H6 t0 (.lst [])) t0 = some (.lst []) := upd_same
      have C7 := C6.same s7 (Nat.le_refl _)
      have t0p : t0 ≠ p := C6.not nt0
      have t0U : t0 ≠ U := (ne_of_none hM nt0).symm
      have hM7 := s7 _ _ hM
      have k7 : ∀ a o, a ≠ p → a ≠ U → H5 a = some o → (upd H6 t0 (.lst [])) a = some o := fun a o h1 h2 e => s7 _ _ (k6 a o h1 h2 e)
      generalize upd H6 t0 (.lst []) = H7 at s7 ht0 C7 hM7 k7
      have ml6 : M.length ≤ 12 := by omega
      obtain ⟨qq, hq1, hq2, hq3⟩ : ∃ qq : Nat, 1 ≤ qq ∧ (M.length < 7 → qq = 2) ∧ (qq = 1 ∨ qq = 2 ∧ M.length < 7) := by
        by_cases c : M.length < 7
        · exact ⟨2, by decide, fun _ => rfl, .inr ⟨rfl, c⟩⟩
        · exact ⟨1, by decide, fun h => absurd h c, .inl rfl⟩
      refine ⟨U, .dT (tkv M), hM7, trivial, fun od => ?_⟩
      have agL : ∀ a, a ≠ U → upd H7 U (.frz od (.dT (tkv M))) a = H7 a := fun a ha => upd_ne ha
      refine ⟨_, rfl, U, od, rfl, .inr ⟨_, upd_same, for_it walk_keysT (fun j σ Hj => (∃ (x9 x10 x13 : Option V) (tl' : Addr), σ = [some (.ref p), some (.int b), some (.int many), some (.int most), some (.ref ln), some (.ref r), some (.str nm), some (.ref D), some (.ref U), x9, x10, some (.int W), some (.ref tl'), x13, none, none] ∧
        ∃ zt : List (V × (Spot × Int)), Hj tl' = some (.lst (zt.map (·.1))) ∧ tl' ≠ p ∧ tl' ≠ U ∧ (∀ z ∈ zt, Dx w (TupG Hj) z.1 (mkT W z.2)) ∧ SF qq (M.take j) W (zt.map (·.2))) ∧ PenD Hj p c (t + 140 + 60 * i + j) ∧ Hj U = some (.frz od (.dT (tkv M))) ∧ ∀ a o, a ≠ p → a ≠ U → H7 a = some o → Hj a = some o) ?_ ?_ ?_ ?_⟩⟩
      · exact ⟨⟨_, _, _, t0, rfl, [], by rw [agL _ t0U]; exact ht0, t0p, t0U, (fun _ h => nomatch h), List.nodup_nil, (fun _ h => nomatch h), rfl, Nat.le_refl _⟩, C7.agree Up Uc agL (by omega), upd_same, fun a o _ ha e => by rw [agL a ha]; exact e⟩
      · rintro j σ Hj _ ⟨_, _, hU, _⟩
        exact hU
      · rintro j x σ Hj Hj' hj ⟨⟨x9, x10, x13, tl', rfl, zt, htl, tlp, tlU, hzt, sf⟩, Cj, hU, kj⟩ ⟨rfl, k0, v0, q, hkv, rfl, hq⟩
        unfold tkv at hkv hj
        rw [List.getElem?_map] at hkv
        rw [List.length_map] at hj
        obtain ⟨e, he, ee⟩ := Option.map_eq_some_iff.mp hkv
        cases ee
        have em := List.mem_of_getElem? he
        have e0 := (PMM.ok e em).2
        have eW : e.2 ≤ W := by rw [← sM]; exact (le_sumM fun d hd => (PMM.ok d hd).2).2 e em
        have hv : valV (tkv M) (pk e.1) = some (.int e.2) := by rw [val_tk, getM_mem PMM.nod em]; rfl
        refine ⟨_, rfl, _, rfl, U, .int e.2, rfl, .inr ⟨tkv M, pk e.1, q, .inr ⟨od, hU⟩, rfl, hq, hv.symm⟩, ?_⟩
        refine ⟨fun σ Ho => ∃ (sl : Addr) (sh : List Int), σ = [some (.ref p), some (.int b), some (.int many), some (.int most), some (.ref ln), some (.ref r), some (.str nm), some (.ref D), some (.ref U), some (.int e.2), some (.ref q), some (.int W), some (.ref tl'), some (.ref sl), none, none] ∧ Ho sl = some (.lst (sh.map V.int)) ∧ (sh = [e.2] ∨ (sh = [1, e.2 - 1] ∧ 2 < e.2 ∧ qq = 2)) ∧ PenD Ho p c (t + 140 + 60 * i + j + 1) ∧ ∀ a o, a ≠ p → Hj' a = some o → Ho a = some o, ?_, ?_⟩
        · have one : ∀ (Hx : Hp), PenD Hx p c (t + 140 + 60 * i + j + 1) → (∀ a o, a ≠ p → Hj' a = some o → Hx a = some o) → ∀ sl Hy, Same Hx Hy → Hy sl = some (.lst [.int e.2]) → ∃ (sl' : Addr) (sh : List Int), [some (V.ref p), some (.int b), some (.int many), some (.int most), some (.ref ln), some (.ref r), some (.str nm), some (.ref D), some (.ref U), some (.int e.2), some (.ref q), some (.int W), some (.ref tl'), some (.ref sl), none, none] = [some (V.ref p), some (.int b), some (.int many), some (.int most), some (.ref ln), some (.ref r), some (.str nm), some (.ref D), some (.ref U), some (.int e.2), some (.ref q), some (.int W), some (.ref tl'), some (.ref sl'), none, none] ∧ Hy sl' = some (.lst (sh.map V.int)) ∧ (sh = [e.2] ∨ (sh = [1, e.2 - 1] ∧ 2 < e.2 ∧ qq = 2)) ∧ PenD Hy p c (t + 140 + 60 * i + j + 1) ∧ ∀ a o, a ≠ p → Hj' a = some o → Hy a = some o :=
            fun Hx Cx kx sl Hy sy hsl => ⟨sl, [e.2], rfl, hsl, .inl rfl, Cx.same sy (Nat.le_refl _), fun a o ha g => sy _ _ (kx a o ha g)⟩
          have base0 : PenD Hj' p c (t + 140 + 60 * i + j + 1) := Cj.same (Same.refl _) (by omega)
          refine ⟨_, rfl, _, _, rfl, rfl, _, rfl, ?_⟩
          by_cases c1 : 2 < e.2
          · refine ifT (decide_eq_true c1) ?_
            refine ⟨_, rfl, U, tkv M, rfl, .inr ⟨od, hU⟩, _, _, rfl, rfl, _, rfl, ite2 (fun c7 => ?_) (fun _ => ?_)⟩
            · replace c7 : M.length < 7 := by
                have := of_decide_eq_true c7
                have e : (tkv M).length = M.length := by unfold tkv; rw [List.length_map]
                omega
              refine ⟨_, rfl, p, c, 3, _, rfl, by decide, by decide, Cj, by omega, fun z H8 z0 z1 b8 C8 => ⟨rfl, _, rfl, ite2 (fun _ => ?_) (fun _ => ?_)⟩⟩
              · refine ⟨_, rfl, _, _, rfl, rfl, (by show 2 ≤ sizeLine; decide), fun sl Hy sy _ hsl => ?_⟩
                exact ⟨sl, [1, e.2 - 1], rfl, hsl, .inr ⟨rfl, c1, hq2 c7⟩, C8.same sy (by omega), fun a o ha g => sy _ _ (b8 _ _ ha g)⟩
              · exact ⟨_, rfl, (by show 1 ≤ sizeLine; decide), fun sl Hy sy _ hsl => one H8 (C8.same (Same.refl _) (by omega)) (fun a o ha g => b8 _ _ ha g) sl Hy sy hsl⟩
            · exact ifF rfl ⟨_, rfl, (by show 1 ≤ sizeLine; decide), fun sl Hy sy _ hsl => one Hj' base0 (fun a o ha g => g) sl Hy sy hsl⟩
          · refine ifF (decide_eq_false c1) (ifF rfl ?_)
            exact ⟨_, rfl, (by show 1 ≤ sizeLine; decide), fun sl Hy sy _ hsl => one Hj' base0 (fun a o ha g => g) sl Hy sy hsl⟩
        rintro σ Ho ⟨sl, sh, rfl, hsl, hsh, Co, ko⟩
        have qp : q ≠ p := fun z => (penD_nt Cj) _ (by rw [z] at hq; exact hq)
        have hqo := ko _ _ qp hq
        have htlo := ko _ _ tlp htl
        have hUo := ko _ _ Up hU
        have kto : KeepT Hj' Ho := keepT2 (p := p) (U := p) (penD_nt Cj) (penD_nt Cj) fun a o h1 _ g => ko a o h1 g
        have shn : ∀ x ∈ sh, 0 < x ∧ x ≤ 60 := fun x hx => by
          rcases hsh with rfl | ⟨rfl, h2⟩
          · rw [List.mem_singleton.mp hx]; omega
          · simp only [List.mem_cons, List.not_mem_nil, or_false] at hx
            rcases hx with rfl | rfl <;> omega
        refine ⟨_, rfl, _, rfl, sl, rfl, ⟨_, SqL.of hsl⟩, fun D2 nD2 => ?_⟩
        refine lc_it (walk_list (K := K) (a := sl) (xs := sh.map V.int)) (fun m Hi => Same Ho Hi ∧ ∃ zs : List (V × (Spot × Int)), Hi D2 = some (.lst (zs.map (·.1))) ∧ zs.map (·.2) = (sh.take m).map (fun x => (e.1, x)) ∧ ∀ z ∈ zs, Dx w (TupG Hi) z.1 (mkT W z.2))
          ⟨Same.upd nD2, [], upd_same, rfl, fun _ h => nomatch h⟩ (fun m Hi _ z => SqL.of (z.1 _ _ hsl)) ?_ ?_
        · rintro m x Hi Hk hm ⟨si, zs, hD2, hz2, hzd⟩ ⟨rfl, hx⟩
          rw [List.length_map] at hm
          obtain ⟨sx, hsx, rfl⟩ : ∃ sx, sh[m]? = some sx ∧ x = .int sx := by
            rw [List.getElem?_map, List.getElem?_eq_getElem hm] at hx
            exact ⟨sh[m], List.getElem?_eq_getElem hm, (Option.some.inj hx).symm⟩
          have hsxm := shn sx (List.mem_of_getElem? hsx)
          refine ⟨rfl, ?_⟩
          refine ⟨_, rfl, _, rfl, _, rfl, sx, W, rfl, by omega, Nat.lt_of_le_of_lt (show W.natAbs ≤ 60 by omega) (by decide), fun lq nlq => ⟨(by show 1 ≤ sizeLine; decide), fun c1 Hc sc hc1 => ?_⟩⟩
          have slq : Same Hk (upd Hk lq (.tup [.int (sx / gL sx W), .int (W / gL sx W)])) := Same.upd nlq
          have skc := slq.trans sc
          have hlq : Hc lq = some (.tup [.int (sx / gL sx W), .int (W / gL sx W)]) := sc _ _ upd_same
          refine ⟨Hc, q, c1, _, _, rfl, rfl, Same.refl _, skc _ _ (si _ _ hqo), hc1, (by show 2 + 1 ≤ sizeLine; decide), fun c2 G' H' mm h2 => ?_⟩
          have skh := skc.trans mm.hh
          have hD2' := skh _ _ hD2
          have nt : ∀ ys, H' D2 ≠ some (.tup ys) := fun ys z => by rw [hD2'] at z; cases z
          have lz : zs.length ≤ 2 := by
            have h1 := congrArg List.length hz2
            rw [List.length_map, List.length_map, List.length_take] at h1
            have h2 : sh.length ≤ 2 := by rcases hsh with h | ⟨h, _⟩ <;> (rw [h]; simp)
            omega
          refine ⟨_, hD2', by rw [List.length_map, sizeLine_eq]; omega, fun a o g => ?_, zs ++ [(.ref c2, (e.1, sx))], by rw [upd_same, List.map_append]; rfl, ?_, fun z hz => ?_⟩
          · rw [upd_ne (ne_of_none g nD2)]; exact skh _ _ (si _ _ g)
          · rw [List.map_append, hz2, List.take_add_one, hsx, List.map_append]; rfl
          · rcases List.mem_append.mp hz with h | h
            · exact (hzd z h).mono ((KeepT.of skh).trans (KeepT.upd nt)).g
            · rw [List.mem_singleton.mp h]
              have kk : KeepT H' (upd H' D2 (.lst (zs.map (·.1) ++ [.ref c2]))) := KeepT.upd nt
              exact .tup (tupG_at (kk _ _ (mm.gh _ _ h2))) (.cons (.int _) (.cons (.str _) (.cons (.tup (tupG_at (kk _ _ (mm.hh _ _ hlq))) (.cons (.int _) (.cons (.int _) .nil))) .nil)))
        · rintro Hd ⟨sd, zs, hD2, hz2, hzd⟩
          rw [List.length_map, List.take_length] at hz2
          have lz : zs.length ≤ 2 := by
            have h1 := congrArg List.length hz2
            rw [List.length_map, List.length_map] at h1
            have h2 : sh.length ≤ 2 := by rcases hsh with h | ⟨h, _⟩ <;> (rw [h]; simp)
            omega
          have lt : zt.length ≤ 12 := by
            have h1 := sf.len
            rw [List.length_map, List.length_take] at h1
            rcases hq3 with rfl | ⟨rfl, h7⟩ <;> omega
          refine ⟨tl', D2, _, _, rfl, rfl, sd _ _ htlo, hD2, by rw [List.length_map, List.length_map, sizeLine_eq]; omega, fun tn ntn => ?_⟩
          have sn : Same Hd (upd Hd tn (.lst (zt.map (·.1) ++ zs.map (·.1)))) := Same.upd ntn
          have Cn := (Co.same sd (Nat.le_refl _)).same sn (Nat.le_refl _)
          have ktn : KeepT Hj' (upd Hd tn (.lst (zt.map (·.1) ++ zs.map (·.1)))) := kto.trans (KeepT.of (sd.trans sn))
          refine ⟨⟨_, _, _, tn, rfl, zt ++ zs, by rw [upd_same, List.map_append], (Co.same sd (Nat.le_refl _)).not ntn, (ne_of_none (sd _ _ hUo) ntn).symm, fun z hz => ?_, ?_⟩, Cn.same (Same.refl _) (by omega), sn _ _ (sd _ _ hUo), fun a o h1 h2 g => sn _ _ (sd _ _ (ko _ _ h1 (kj a o h1 h2 g)))⟩
          · rcases List.mem_append.mp hz with h | h
            · exact (hzt z h).mono ktn.g
            · exact (hzd z h).mono (KeepT.of sn).g
          · rw [List.map_append, hz2]
            exact sf.one hq1 PMM.nod he e0 eW hsh
      · rintro σ Hj ⟨⟨x9, x10, x13, tl', rfl, zt, htl, tlp, tlU, hzt, sf⟩, Cj, hU, kj⟩
        have tkl : (tkv M).length = M.length := by unfold tkv; rw [List.length_map]
        rw [tkl] at sf Cj
        rw [List.take_length] at sf
        refine ⟨hU, ?_⟩
        have agU : ∀ a, a ≠ U → upd Hj U (.dT (tkv M)) a = Hj a := fun a ha => upd_ne ha
        have ktU : KeepT Hj (upd Hj U (.dT (tkv M))) := KeepT.upd fun ys z => by rw [hU] at z; cases z
        have CU := Cj.agree Up Uc agU (Nat.le_refl _)
        have kU : ∀ a o, a ≠ p → a ≠ U → H7 a = some o → upd Hj U (.dT (tkv M)) a = some o := fun a o h1 h2 e => by rw [agU a h2]; exact kj a o h1 h2 e
        have htlU : upd Hj U (.dT (tkv M)) tl' = some (.lst (zt.map (·.1))) := by rw [agU _ tlU]; exact htl
        have hztU : ∀ z ∈ zt, Dx w (TupG (upd Hj U (.dT (tkv M)))) z.1 (mkT W z.2) := fun z hz => (hzt z hz).mono ktU.g
        generalize upd Hj U (.dT (tkv M)) = Hv at CU kU htlU hztU
        -- sorted
        have hlen : zt.length ≤ 12 := by have h1 := sf.len; rw [List.length_map] at h1; rcases hq3 with rfl | ⟨rfl, h7⟩ <;> omega
        have hrv := kU _ _ rp Ur.symm (s7 _ _ (k6 _ _ rp Ur.symm hr5))
        have sub25 : ∀ a o, a ≠ p → a ≠ U → H3 a = some o → Hv a = some o := fun a o h1 h2 e => kU a o h1 h2 (s7 _ _ (k6 a o h1 h2 (b25 a o h1 e)))
        refine ⟨_, rfl, tl', zt.map (fun z => (z.1, mkT W z.2)), rfl, by rw [htlU, List.map_map]; rfl, fun z hz => ?_, fun d hd d' hd' => ?_, .inl fun d hd => ?_, fun z hz => ?_, fun sl nsl => ?_⟩
        · obtain ⟨y, hy, rfl⟩ := List.mem_map.mp hz
          exact (hztU y hy).mono tupG_sub
        · obtain ⟨y, hy, rfl⟩ := List.mem_map.mp hd
          obtain ⟨y', hy', rfl⟩ := List.mem_map.mp hd'
          obtain ⟨z, _, rfl⟩ := List.mem_map.mp hy
          obtain ⟨z', _, rfl⟩ := List.mem_map.mp hy'
          exact mkT_alike _ _ _
        · obtain ⟨y, hy, rfl⟩ := List.mem_map.mp hd
          obtain ⟨z, _, rfl⟩ := List.mem_map.mp hy
          exact ⟨_, _, rfl⟩
        · obtain ⟨y, hy, rfl⟩ := List.mem_map.mp hz
          simp only [mkT, PyData.depth, PyData.depthAll]; omega
        have ss : Same Hv (upd Hv sl (.lst (((zt.map (fun z => (z.1, mkT W z.2))).mergeSort (PySem.W.dataLe false (·.2))).map (·.1)))) := Same.upd nsl
        have hsl : (upd Hv sl (.lst (((zt.map (fun z => (z.1, mkT W z.2))).mergeSort (PySem.W.dataLe false (·.2))).map (·.1)))) sl = some (.lst (((zt.map (fun z => (z.1, mkT W z.2))).mergeSort (PySem.W.dataLe false (·.2))).map (·.1))) := upd_same
        refine ⟨sl, _, rfl, .inl ⟨SqL.of hsl, fun tq ntq => ?_⟩⟩
        obtain ⟨zq, ezq, pzq⟩ : ∃ zq : List (V × (Spot × Int)), (zt.map (fun z => (z.1, mkT W z.2))).mergeSort (PySem.W.dataLe false (·.2)) = zq.map (fun z => (z.1, mkT W z.2)) ∧ zq.Perm zt :=
          ⟨zt.mergeSort fun x y => PySem.W.dataLe false (fun z : V × PyData => z.2) (x.1, mkT W x.2) (y.1, mkT W y.2), (List.map_mergeSort (r := fun x y => PySem.W.dataLe false (fun z : V × PyData => z.2) (x.1, mkT W x.2) (y.1, mkT W y.2)) (s := PySem.W.dataLe false fun z : V × PyData => z.2) (f := fun z : V × (Spot × Int) => (z.1, mkT W z.2)) (l := zt) (fun _ _ _ _ => rfl)).symm, List.mergeSort_perm _ _⟩
        have srt := List.pairwise_mergeSort (le := PySem.W.dataLe false fun z : V × PyData => z.2) (fun a b c h1 h2 => le_trans' _ a b c h1 h2) (fun a b => le_total' _ a b) (zt.map (fun z => (z.1, mkT W z.2)))
        rw [ezq] at ntq hsl ss srt ⊢
        rw [List.map_map] at ntq hsl ss ⊢
        generalize upd Hv sl (.lst (zq.map ((·.1) ∘ fun z => (z.1, mkT W z.2)))) = Hs at ss hsl ntq
        have st := Same.upd (o := .tup (zq.map ((·.1) ∘ fun z : V × (Spot × Int) => (z.1, mkT W z.2)))) ntq
        have htq : (upd Hs tq (.tup (zq.map ((·.1) ∘ fun z : V × (Spot × Int) => (z.1, mkT W z.2))))) tq = some (.tup (zq.map ((·.1) ∘ fun z : V × (Spot × Int) => (z.1, mkT W z.2)))) := upd_same
        generalize upd Hs tq (.tup (zq.map ((·.1) ∘ fun z : V × (Spot × Int) => (z.1, mkT W z.2)))) = Ht at st htq
        have svt := ss.trans st
        have hrt := svt _ _ hrv
        have trq : tq ≠ r := fun z => by rw [z, hrt] at htq; cases htq
        have klen : kvs.length ≤ 8 := by
          have h1 := congrArg List.length hks
          rw [List.length_map, List.length_map, List.length_take] at h1
          omega
        refine ⟨_, rfl, _, rfl, r, _, rfl, DPut.k (k := Sum.inr nm) hrt (by rw [sizeLine_eq]; omega), ?_⟩
        rw [put_new hks (take_new nok.nod hnm)]
        have agr : ∀ a, a ≠ r → upd Ht r (.dK (kvs ++ [(Sum.inr nm, .ref tq)])) a = Ht a := fun a ha => upd_ne ha
        have ktf : KeepT Ht (upd Ht r (.dK (kvs ++ [(Sum.inr nm, .ref tq)]))) := KeepT.upd fun ys z => by rw [hrt] at z; cases z
        have kt3 : KeepT H3 Ht := (keepT2 (p := p) (U := U) (penD_nt C2) (fun ys z => by rw [b25 _ _ Up z] at nU; cases nU) sub25).trans (KeepT.of svt)
        refine ⟨⟨_, _, _, _, _, _, _, _, rfl⟩, hi, (CU.same svt (Nat.le_refl _)).agree rp rc agr (by omega), fun a o h1 h2 e => ?_, _, rows ++ [zq.map fun z => mkT W z.2], upd_same, ?_, ?_, by rw [List.length_append, hrl]; rfl, fun row hr' => ?_⟩
        · rw [agr a h2]
          have e3 := kp a o h1 h2 e
          exact svt _ _ (sub25 a o h1 (fun z => by
            have := b25 _ _ h1 e3
            rw [z, nU] at this; cases this) e3)
        · rw [List.map_append, hks, List.take_add_one, hnm, List.map_append]; rfl
        · rw [List.map_append, List.map_append]
          refine (hdx.mono (kt3.trans ktf).g).append (.cons ?_ .nil)
          refine .tup (tupG_at (by rw [agr _ trq]; exact htq)) ?_
          have := dxall_mem (w := w) (G := TupG (upd Ht r (.dK (kvs ++ [(Sum.inr nm, .ref tq)])))) (zs := zq.map fun z => (z.1, mkT W z.2)) fun z hz => by
            obtain ⟨y, hy, rfl⟩ := List.mem_map.mp hz
            exact (hztU y (pzq.mem_iff.mp hy)).mono ((KeepT.of svt).trans ktf).g
          rw [List.map_map, List.map_map] at this
          exact this
        · rcases List.mem_append.mp hr' with h | h
          · exact hrow row h
          · rw [List.mem_singleton.mp h]
            refine ⟨zq.map (·.2), W, by rw [List.map_map]; rfl, (pzq.map (·.2)).nodup_iff.mpr sf.nod, fun e he => ?_, ?_, by omega, W30, ?_, ?_, ?_⟩
            · have he2 := (pzq.map (·.2)).mem_iff.mp he
              obtain ⟨h1, h2, h3⟩ := sf.ok e he2
              obtain ⟨d, hd, ed⟩ := List.mem_map.mp h1
              have := (PMM.ok d hd).1
              rw [ed] at this
              exact ⟨this, h2, h3⟩
            · rw [← sM, ← sf.sum]
              unfold sumM
              exact sum_perm ((pzq.map (·.2)).map (·.2))
            · rw [List.length_map, pzq.length_eq]; exact hlen
            · intro z
              have h1 := congrArg List.length z
              rw [List.length_map, pzq.length_eq, List.length_nil] at h1
              have : zt = [] := List.length_eq_zero_iff.mp h1
              have h2 := sf.sum
              rw [this, sM] at h2
              have : W = 0 := h2.symm
              omega
            · rw [List.pairwise_map] at srt ⊢
              refine srt.imp fun {a b} h => ?_
              rw [PySem.W.dataLe_eq] at h
              simpa using h
    · rintro σ H2 ⟨⟨y6, y7, y8, y9, y10, y11, y12, y13, rfl⟩, _, C2, kp, kvs, rows, hrk, hks, hdx, hrl, hrow⟩
      rw [List.length_map, List.take_length] at hks
      rw [List.length_map] at C2 hrl
      refine ⟨_, rfl, _, rfl, (by show 2 ≤ sizeLine; decide), fun bk Hz sz hbk => ?_⟩
      have sH : But p H Hz := fun a o ha e => by
        have e1 := b1' a o ha e
        exact sz _ _ (kp a o ha (ne_of_none e1 nr) e1)
      have freeH : ∀ a : Addr, a ≠ p → H1 a = none → H a = none := fun a ha n => by
        cases q : H a with
        | none => rfl
        | some o => rw [b1' _ _ ha q] at n; cases n
      have Cz := C2.same sz (Nat.le_refl _)
      exact k bk r ns rows kvs Hz sH (Cz.same (Same.refl _) (by have := nok.len; omega)) (freeH r rp nr) hbk (sz _ _ hrk) hks nok (hdx.mono (KeepT.of sz).g) hrl hrow
end
end My

set_option linter.all false
namespace My.Dt
/-! ### determinants by columns, along the first row -/
abbrev Vc := Nat → Int
/-- the terms of the expansion: X stands ahead -/
def dsum (f : List Vc → Int) (r : Nat) : List Vc → List Vc → Int
  | _, [] => 0
  | X, c :: Y => c r * f (X ++ Y) - dsum f r (X ++ [c]) Y
/-- the determinant of the columns, from row r on -/
def det : Nat → List Vc → Nat → Int
  | 0, _, _ => 1
  | n + 1, L, r => dsum (fun K => det n K (r + 1)) r [] L
def lc (a : Int) (u : Vc) (b : Int) (v : Vc) : Vc := fun i => a * u i + b * v i
section
variable {f : List Vc → Int} {r n : Nat} {a b : Int} {u v : Vc}
theorem lin_a (hf : ∀ X Y : List Vc, X.length + Y.length + 1 = n → f (X ++ lc a u b v :: Y) = a * f (X ++ u :: Y) + b * f (X ++ v :: Y)) : ∀ Q P1 P2 : List Vc, P1.length + P2.length + Q.length = n → dsum f r (P1 ++ lc a u b v :: P2) Q = a * dsum f r (P1 ++ u :: P2) Q + b * dsum f r (P1 ++ v :: P2) Q
  | [], P1, P2, _ => by simp [dsum]
  | c :: Q, P1, P2, l => by
    rw [List.length_cons] at l
    have ih := lin_a hf Q P1 (P2 ++ [c]) (by rw [List.length_append, List.length_singleton]; omega)
    simp only [dsum, List.append_assoc, List.cons_append]
    rw [hf _ _ (by rw [List.length_append]; omega), ih]
    simp only [Int.mul_add, Int.mul_sub, Int.mul_left_comm]
    omega
theorem lin_b (hf : ∀ X Y : List Vc, X.length + Y.length + 1 = n → f (X ++ lc a u b v :: Y) = a * f (X ++ u :: Y) + b * f (X ++ v :: Y)) (Y : List Vc) : ∀ X P : List Vc, P.length + X.length + Y.length = n → dsum f r P (X ++ lc a u b v :: Y) = a * dsum f r P (X ++ u :: Y) + b * dsum f r P (X ++ v :: Y)
  | [], P, l => by
    have h := lin_a (r := r) hf Y P [] (by simpa using l)
    simp only [List.nil_append, dsum]
    rw [show P ++ [lc a u b v] = P ++ lc a u b v :: [] from rfl, h]
    show (a * u r + b * v r) * _ - _ = _
    simp only [Int.add_mul, Int.mul_sub, Int.mul_assoc]
    omega
  | x :: X, P, l => by
    rw [List.length_cons] at l
    have ih := lin_b hf Y X (P ++ [x]) (by rw [List.length_append, List.length_singleton]; omega)
    simp only [List.cons_append, dsum]
    rw [← List.append_assoc, hf _ _ (by rw [List.length_append]; omega), ih, List.append_assoc, List.append_assoc]
    simp only [Int.mul_add, Int.mul_sub, Int.mul_left_comm]
    omega
theorem alt_a (hf : ∀ X Y : List Vc, X.length + Y.length + 2 = n → f (X ++ u :: u :: Y) = 0) : ∀ Q P1 P2 : List Vc, P1.length + P2.length + Q.length + 1 = n → dsum f r (P1 ++ u :: u :: P2) Q = 0
  | [], P1, P2, _ => by simp [dsum]
  | c :: Q, P1, P2, l => by
    rw [List.length_cons] at l
    have ih := alt_a hf Q P1 (P2 ++ [c]) (by rw [List.length_append, List.length_singleton]; omega)
    simp only [dsum, List.append_assoc, List.cons_append]
    rw [hf _ _ (by rw [List.length_append]; omega), ih, Int.mul_zero]; rfl
theorem alt_b (hf : ∀ X Y : List Vc, X.length + Y.length + 2 = n → f (X ++ u :: u :: Y) = 0) (Y : List Vc) : ∀ X P : List Vc, P.length + X.length + Y.length + 1 = n → dsum f r P (X ++ u :: u :: Y) = 0
  | [], P, l => by
    have h := alt_a (r := r) hf Y P [] (by simpa using l)
    simp only [List.nil_append, dsum, List.append_assoc, List.cons_append]
    rw [h]
    omega
  | x :: X, P, l => by
    rw [List.length_cons] at l
    have ih := alt_b hf Y X (P ++ [x]) (by rw [List.length_append, List.length_singleton]; omega)
    simp only [List.cons_append, dsum]
    rw [← List.append_assoc, hf _ _ (by rw [List.length_append]; omega), ih, Int.mul_zero]; rfl
end
theorem det_lin : ∀ (n : Nat) (r : Nat) (X Y : List Vc) (a b : Int) (u v : Vc), X.length + Y.length + 1 = n → det n (X ++ lc a u b v :: Y) r = a * det n (X ++ u :: Y) r + b * det n (X ++ v :: Y) r
  | 0, _, _, _, _, _, _, _, h => by omega
  | n + 1, r, X, Y, a, b, u, v, h => lin_b (n := n) (fun X Y l => det_lin n (r + 1) X Y a b u v l) Y X [] (by simp only [List.length_nil]; omega)
theorem det_alt : ∀ (n : Nat) (r : Nat) (X Y : List Vc) (u : Vc), X.length + Y.length + 2 = n → det n (X ++ u :: u :: Y) r = 0
  | 0, _, _, _, _, h => by omega
  | n + 1, r, X, Y, u, h => alt_b (n := n) (fun X Y l => det_alt n (r + 1) X Y u l) Y X [] (by simp only [List.length_nil]; omega)
theorem det_swap {n r : Nat} {X Y : List Vc} {u v : Vc} (l : X.length + Y.length + 2 = n) : det n (X ++ u :: v :: Y) r = - det n (X ++ v :: u :: Y) r := by
  have h0 := det_alt n r X Y (lc 1 u 1 v) l
  have h1 := det_lin n r X (lc 1 u 1 v :: Y) 1 1 u v (by rw [List.length_cons]; omega)
  have h2 : ∀ w, det n (X ++ w :: lc 1 u 1 v :: Y) r = 1 * det n (X ++ w :: u :: Y) r + 1 * det n (X ++ w :: v :: Y) r := fun w => by
    have := det_lin n r (X ++ [w]) Y 1 1 u v (by rw [List.length_append, List.length_singleton]; omega)
    simpa [List.append_assoc] using this
  rw [h1, h2, h2, det_alt n r X Y u l, det_alt n r X Y v l] at h0
  omega
theorem det_rep : ∀ (Z : List Vc) {n r : Nat} {X Y : List Vc} {u : Vc}, X.length + Z.length + Y.length + 2 = n → det n (X ++ u :: (Z ++ u :: Y)) r = 0
  | [], n, r, X, Y, u, l => det_alt n r X Y u (by simpa using l)
  | z :: Z, n, r, X, Y, u, l => by
    rw [List.length_cons] at l
    rw [List.cons_append, det_swap (by rw [List.length_append, List.length_cons]; omega)]
    have := det_rep Z (n := n) (r := r) (X := X ++ [z]) (Y := Y) (u := u) (by rw [List.length_append, List.length_singleton]; omega)
    rw [List.append_assoc] at this
    rw [show X ++ z :: u :: (Z ++ u :: Y) = X ++ ([z] ++ u :: (Z ++ u :: Y)) from rfl, this]
    rfl
/-- a column twice -/
theorem det_two {n r : Nat} {X Y : List Vc} {u : Vc} (l : X.length + Y.length + 1 = n) (h : u ∈ X ∨ u ∈ Y) : det n (X ++ u :: Y) r = 0 := by
  rcases h with h | h
  · obtain ⟨X1, X2, rfl⟩ := List.append_of_mem h
    rw [List.append_assoc, List.cons_append]
    rw [List.length_append, List.length_cons] at l
    exact det_rep X2 (by omega)
  · obtain ⟨Y1, Y2, rfl⟩ := List.append_of_mem h
    rw [List.length_append, List.length_cons] at l
    exact det_rep Y1 (by omega)
/-! a last column that stands in the last row alone -/
theorem dsum_last {f g : List Vc → Int} {r n : Nat} {e : Vc} {s : Int} (e0 : e r = 0) (hf : ∀ K : List Vc, K.length = n → f (K ++ [e]) = s * g K) : ∀ Q P : List Vc, P.length + Q.length = n + 1 → dsum f r P (Q ++ [e]) = s * dsum g r P Q
  | [], P, _ => by simp [dsum, e0]
  | c :: Q, P, l => by
    rw [List.length_cons] at l
    have ih := dsum_last e0 hf Q (P ++ [c]) (by rw [List.length_append, List.length_singleton]; omega)
    simp only [List.cons_append, dsum]
    rw [← List.append_assoc, hf _ (by rw [List.length_append]; omega), ih]
    simp only [Int.mul_sub, Int.mul_left_comm]
theorem det_last : ∀ (n r : Nat) (L : List Vc) (e : Vc) (s : Int), L.length = n → (∀ i, i < n → e (r + i) = 0) → e (r + n) = s → det (n + 1) (L ++ [e]) r = s * det n L r
  | 0, r, L, e, s, l, h0, h1 => by
    have : L = [] := List.length_eq_zero_iff.mp l
    subst this
    simp only [det, dsum, List.nil_append, Nat.add_zero] at h1 ⊢
    omega
  | n + 1, r, L, e, s, l, h0, h1 => by
    show dsum (fun K => det (n + 1) K (r + 1)) r [] (L ++ [e]) = s * dsum (fun K => det n K (r + 1)) r [] L
    refine dsum_last (n := n) (h0 0 (by omega)) (fun K lk => ?_) L [] (by simp [l])
    exact det_last n (r + 1) K e s lk (fun i hi => by rw [show r + 1 + i = r + (i + 1) by omega]; exact h0 _ (by omega)) (by rw [show r + 1 + n = r + (n + 1) by omega]; exact h1)
/-! only the rows that are there count -/
inductive Ag (r n : Nat) : List Vc → List Vc → Prop
  | nil : Ag r n [] []
  | cons {u v : Vc} {X Y : List Vc} : (∀ i, i < n → u (r + i) = v (r + i)) → Ag r n X Y → Ag r n (u :: X) (v :: Y)
theorem Ag.app {r n : Nat} : ∀ {X Y X' Y' : List Vc}, Ag r n X Y → Ag r n X' Y' → Ag r n (X ++ X') (Y ++ Y')
  | _, _, _, _, .nil, h => h
  | _, _, _, _, .cons a t, h => .cons a (t.app h)
theorem Ag.dn {r n : Nat} : ∀ {X Y : List Vc}, Ag r (n + 1) X Y → Ag (r + 1) n X Y
  | _, _, .nil => .nil
  | _, _, .cons a t => .cons (fun i hi => by rw [show r + 1 + i = r + (i + 1) by omega]; exact a _ (by omega)) t.dn
theorem dsum_ag {f f' : List Vc → Int} {r n : Nat} (hf : ∀ K K', Ag r (n + 1) K K' → f K = f' K') : ∀ {Q Q' P P' : List Vc}, Ag r (n + 1) Q Q' → Ag r (n + 1) P P' → dsum f r P Q = dsum f' r P' Q'
  | _, _, _, _, .nil, _ => rfl
  | _, _, _, _, .cons a t, hp => by
    simp only [dsum]
    rw [hf _ _ (hp.app t), dsum_ag hf t (hp.app (.cons a .nil))]
    have := a 0 (by omega)
    rw [Nat.add_zero] at this
    rw [this]
theorem det_ag : ∀ (n r : Nat) {L L' : List Vc}, Ag r n L L' → det n L r = det n L' r
  | 0, _, _, _, _ => rfl
  | n + 1, r, _, _, h => dsum_ag (fun K K' hk => det_ag n (r + 1) hk.dn) h .nil
theorem ag_map {r n : Nat} {α : Type} {f g : α → Vc} : ∀ {l : List α}, (∀ t ∈ l, ∀ i, i < n → f t (r + i) = g t (r + i)) → Ag r n (l.map f) (l.map g)
  | [], _ => .nil
  | a :: l, h => .cons (h a List.mem_cons_self) (ag_map fun t ht => h t (List.mem_cons_of_mem _ ht))
/-! how large -/
theorem dsum_le {f : List Vc → Int} {r n : Nat} {M F : Nat} (hf : ∀ K : List Vc, K.length = n → (∀ c ∈ K, ∀ i, (c i).natAbs ≤ M) → (f K).natAbs ≤ F) : ∀ Q P : List Vc, P.length + Q.length = n + 1 → (∀ c ∈ P, ∀ i, (c i).natAbs ≤ M) → (∀ c ∈ Q, ∀ i, (c i).natAbs ≤ M) → (dsum f r P Q).natAbs ≤ Q.length * (M * F)
  | [], P, _, _, _ => by simp [dsum]
  | c :: Q, P, l, hp, hq => by
    rw [List.length_cons] at l
    have hc := hq c List.mem_cons_self
    have hq' : ∀ c ∈ Q, ∀ i, (c i).natAbs ≤ M := fun x hx => hq x (List.mem_cons_of_mem _ hx)
    have ih := dsum_le (r := r) hf Q (P ++ [c]) (by rw [List.length_append, List.length_singleton]; omega) (fun x hx => by
      rcases List.mem_append.mp hx with h | h
      · exact hp x h
      · rw [List.mem_singleton.mp h]; exact hc) hq'
    have h1 := hf (P ++ Q) (by rw [List.length_append]; omega) fun x hx => by
      rcases List.mem_append.mp hx with h | h
      · exact hp x h
      · exact hq' x h
    simp only [dsum]
    rw [List.length_cons, Nat.succ_mul]
    have h2 : (c r * f (P ++ Q)).natAbs ≤ M * F := by
      rw [Int.natAbs_mul]
      exact Nat.mul_le_mul (hc r) h1
    omega
def dbd (M : Nat) : Nat → Nat
  | 0 => 1
  | n + 1 => (n + 1) * (M * dbd M n)
theorem det_le {M : Nat} : ∀ (n r : Nat) (L : List Vc), L.length = n → (∀ c ∈ L, ∀ i, (c i).natAbs ≤ M) → (det n L r).natAbs ≤ dbd M n
  | 0, _, _, _, _ => by show (1 : Int).natAbs ≤ 1; decide
  | n + 1, r, L, l, h => by
    have := dsum_le (r := r) (F := dbd M n) (fun K lk hk => det_le n (r + 1) K lk hk) L [] (by simp [l]) (fun _ h => nomatch h) h
    rw [l] at this
    exact this
/-! ### the elimination that stays whole -/
def repl (L : List Vc) (s : Nat) (w : Vc) : List Vc := L.take s ++ w :: L.drop (s + 1)
theorem repl_len {L : List Vc} {s : Nat} (w : Vc) (h : s < L.length) : (L.take s).length + (L.drop (s + 1)).length + 1 = L.length := by
  rw [List.length_take, List.length_drop]; omega
theorem repl_self {L : List Vc} {s : Nat} (h : s < L.length) : repl L s L[s] = L := by
  unfold repl
  rw [← List.drop_eq_getElem_cons h, List.take_append_drop]
theorem mem_repl {L : List Vc} {s t : Nat} (ht : t < L.length) (n : t ≠ s) : L[t] ∈ L.take s ∨ L[t] ∈ L.drop (s + 1) := by
  rcases Nat.lt_or_gt_of_ne n with h | h
  · exact .inl (List.mem_take_iff_getElem.mpr ⟨t, by omega, rfl⟩)
  · refine .inr (List.mem_drop_iff_getElem.mpr ⟨t - (s + 1), by omega, ?_⟩)
    congr 1; omega
theorem repl_other {L : List Vc} {s t : Nat} (hs : s < L.length) (ht : t < L.length) (n : t ≠ s) {r : Nat} : det L.length (repl L s L[t]) r = 0 := det_two (repl_len L[t] hs) (mem_repl ht n)
/-- a sum of columns -/
def sumv (l : List Nat) (α : Nat → Int) (V : Nat → Vc) : Vc := fun p => (l.map fun t => α t * V t p).sum
theorem det_zero {n r : Nat} {X Y : List Vc} (l : X.length + Y.length + 1 = n) : det n (X ++ (fun _ => 0) :: Y) r = 0 := by
  have := det_lin n r X Y 0 0 (fun _ => 0) (fun _ => 0) l
  rw [show lc 0 (fun _ => 0) 0 (fun _ => 0) = fun _ => 0 from rfl] at this
  omega
theorem det_sumv {n r : Nat} {X Y : List Vc} {α : Nat → Int} {V : Nat → Vc} (h : X.length + Y.length + 1 = n) : ∀ l : List Nat, det n (X ++ sumv l α V :: Y) r = (l.map fun t => α t * det n (X ++ V t :: Y) r).sum
  | [] => by
    rw [show sumv [] α V = fun _ => 0 from rfl, det_zero h]; rfl
  | t :: l => by
    have e : sumv (t :: l) α V = lc (α t) (V t) 1 (sumv l α V) := by
      funext p
      show α t * V t p + _ = α t * V t p + 1 * _
      rw [Int.one_mul]; rfl
    rw [e, det_lin n r X Y _ _ _ _ h, det_sumv h l, List.map_cons, List.sum_cons, Int.one_mul]
theorem sum_zero {g : Nat → Int} : ∀ {l : List Nat}, (∀ t ∈ l, g t = 0) → (l.map g).sum = 0
  | [], _ => rfl
  | t :: l, h => by
    rw [List.map_cons, List.sum_cons, h t List.mem_cons_self, sum_zero fun x hx => h x (List.mem_cons_of_mem _ hx)]; rfl
theorem sum_one {g : Nat → Int} {s : Nat} : ∀ {l : List Nat}, l.Nodup → s ∈ l → (∀ t ∈ l, t ≠ s → g t = 0) → (l.map g).sum = g s
  | t :: l, nd, hs, h => by
    obtain ⟨n1, n2⟩ := List.nodup_cons.mp nd
    rw [List.map_cons, List.sum_cons]
    rcases List.mem_cons.mp hs with rfl | hs
    · rw [sum_zero fun x hx => h x (List.mem_cons_of_mem _ hx) fun e => n1 (e ▸ hx)]; omega
    · rw [h t List.mem_cons_self fun e => n1 (e ▸ hs), sum_one n2 hs fun x hx => h x (List.mem_cons_of_mem _ hx)]; omega
theorem sum_ext {g g' : Nat → Int} {l : List Nat} (h : ∀ t ∈ l, g t = g' t) : (l.map g).sum = (l.map g').sum := by rw [List.map_congr_left h]
theorem sum_mul {g : Nat → Int} (c : Int) : ∀ l : List Nat, (l.map fun t => c * g t).sum = c * (l.map g).sum
  | [] => by simp
  | t :: l => by rw [List.map_cons, List.sum_cons, List.map_cons, List.sum_cons, sum_mul c l, Int.mul_add]
theorem sum_sub {g h : Nat → Int} : ∀ l : List Nat, (l.map fun t => g t - h t).sum = (l.map g).sum - (l.map h).sum
  | [] => by simp
  | t :: l => by simp only [List.map_cons, List.sum_cons, sum_sub l]; omega
theorem sum_snoc {g : Nat → Int} (k : Nat) : ((List.range (k + 1)).map g).sum = ((List.range k).map g).sum + g k := by
  rw [List.range_succ, List.map_append, List.sum_append]
  simp
def colv (A : Nat → Nat → Int) (j : Nat) : Vc := fun p => A p j
def bord (A : Nat → Nat → Int) (k i : Nat) : Nat → Nat → Int := fun p => if p < k then A p else A i
def cls (A : Nat → Nat → Int) (k : Nat) : List Vc := (List.range k).map (colv A)
theorem cls_len (A : Nat → Nat → Int) (k : Nat) : (cls A k).length = k := by unfold cls; rw [List.length_map, List.length_range]
theorem cls_at {A : Nat → Nat → Int} {k t : Nat} (h : t < (cls A k).length) : (cls A k)[t] = colv A t := by simp [cls]
/-- the pivot behind k steps, and what stands at (i, j) -/
def md (A : Nat → Nat → Int) (k : Nat) : Int := det k (cls A k) 0
def mS (A : Nat → Nat → Int) (k i j : Nat) : Int := if i < k then det k (repl (cls A k) i (colv A j)) 0 else det (k + 1) (cls (bord A k i) k ++ [colv (bord A k i) j]) 0
section
variable {A : Nat → Nat → Int}
theorem md_zero : md A 0 = 1 := rfl
theorem mS_zero (i j : Nat) : mS A 0 i j = A i j := by
  unfold mS
  rw [if_neg (Nat.not_lt_zero _)]
  simp [det, dsum, cls, colv, bord]
theorem cls_succ (A : Nat → Nat → Int) (k : Nat) : cls A (k + 1) = cls A k ++ [colv A k] := by
  unfold cls
  rw [List.range_succ, List.map_append]; rfl
theorem bord_at {k i p : Nat} (h : p < k) (j : Nat) : bord A k i p j = A p j := by unfold bord; rw [if_pos h]
theorem bord_last {k i j : Nat} : bord A k i k j = A i j := by unfold bord; rw [if_neg (Nat.lt_irrefl _)]
theorem md_succ (k : Nat) : md A (k + 1) = mS A k k k := by
  unfold md mS
  rw [if_neg (Nat.lt_irrefl _), cls_succ]
  refine det_ag (k + 1) 0 (Ag.app (ag_map fun t _ p hp => ?_) (.cons (fun p hp => ?_) .nil))
  all_goals
    rw [Nat.zero_add]
    show A p _ = bord A k k p _
    by_cases h : p < k
    · rw [bord_at h]
    · rw [show p = k by omega, bord_last]
theorem mS_pivot (k j : Nat) : mS A (k + 1) k j = mS A k k j := by
  unfold mS
  rw [if_pos (Nat.lt_succ_self _), if_neg (Nat.lt_irrefl _)]
  have e : repl (cls A (k + 1)) k (colv A j) = cls A k ++ [colv A j] := by
    unfold repl
    rw [cls_succ, List.take_append_of_le_length (by rw [cls_len]; exact Nat.le_refl _), List.take_of_length_le (by rw [cls_len]; exact Nat.le_refl _), List.drop_of_length_le (by rw [List.length_append, cls_len]; exact Nat.le_refl _)]
  rw [e]
  refine det_ag (k + 1) 0 (Ag.app (ag_map fun t _ p hp => ?_) (.cons (fun p hp => ?_) .nil))
  all_goals
    rw [Nat.zero_add]
    show A p _ = bord A k k p _
    by_cases h : p < k
    · rw [bord_at h]
    · rw [show p = k by omega, bord_last]
/-- each column by those of the pivots -/
def Cmb (A : Nat → Nat → Int) (k : Nat) : Prop := ∀ i j, md A k * A i j = ((List.range k).map fun t => mS A k t j * A i t).sum + (if k ≤ i then mS A k i j else 0)
theorem cmb_zero : Cmb A 0 := fun i j => by
  rw [md_zero, if_pos (Nat.zero_le _), mS_zero]
  simp
/-- the numerator of the step -/
def mT (A : Nat → Nat → Int) (k i j : Nat) : Int := mS A k k k * mS A k i j - mS A k i k * mS A k k j
theorem cmb_mul {k : Nat} (h : Cmb A k) (i j : Nat) : md A k * mS A k k k * A i j = ((List.range k).map fun t => mT A k t j * A i t).sum + md A k * mS A k k j * A i k + (if k < i then mT A k i j else 0) := by
  have e1 := h i j
  have e2 := h i k
  have e3 : ((List.range k).map fun t => mT A k t j * A i t).sum = mS A k k k * ((List.range k).map fun t => mS A k t j * A i t).sum - mS A k k j * ((List.range k).map fun t => mS A k t k * A i t).sum := by
    rw [← sum_mul, ← sum_mul, ← sum_sub]
    refine sum_ext fun t _ => ?_
    unfold mT
    rw [Int.sub_mul, Int.mul_assoc, Int.mul_comm (mS A k t k) (mS A k k j), Int.mul_assoc]
  have e4 : md A k * mS A k k k * A i j = mS A k k k * (md A k * A i j) := by rw [Int.mul_comm (md A k), Int.mul_assoc]
  have e5 : md A k * mS A k k j * A i k = mS A k k j * (md A k * A i k) := by rw [Int.mul_comm (md A k), Int.mul_assoc]
  rw [e4, e5, e1, e2, e3]
  rcases Nat.lt_trichotomy i k with c | c | c
  · rw [if_neg (by omega), if_neg (by omega), if_neg (by omega)]
    simp only [Int.mul_add, Int.mul_zero]
    omega
  · subst c
    rw [if_pos (Nat.le_refl _), if_pos (Nat.le_refl _), if_neg (by omega), Int.mul_add, Int.mul_add, Int.mul_comm (mS A i i j) (mS A i i i)]
    omega
  · rw [if_pos (by omega), if_pos (by omega), if_pos c, Int.mul_add, Int.mul_add]
    unfold mT
    rw [Int.mul_comm (mS A k i k) (mS A k k j)]
    omega
/-- the coefficients -/
def cfs (A : Nat → Nat → Int) (k j t : Nat) : Int := if t < k then mT A k t j else md A k * mS A k k j
theorem cmb_cfs {k : Nat} (h : Cmb A k) (i j : Nat) : md A k * mS A k k k * A i j = ((List.range (k + 1)).map fun t => cfs A k j t * A i t).sum + (if k < i then mT A k i j else 0) := by
  rw [cmb_mul h, sum_snoc]
  have e : ((List.range k).map fun t => cfs A k j t * A i t).sum = ((List.range k).map fun t => mT A k t j * A i t).sum := sum_ext fun t ht => by
    unfold cfs
    rw [if_pos (List.mem_range.mp ht)]
  rw [e]
  unfold cfs
  rw [if_neg (Nat.lt_irrefl _)]
theorem step_less {k s : Nat} (h : Cmb A k) (hp : mS A k k k ≠ 0) (hs : s < k) (j : Nat) : md A k * mS A (k + 1) s j = mT A k s j := by
  have hl : s < (cls A (k + 1)).length := by rw [cls_len]; omega
  have len := repl_len (colv A j) hl
  rw [cls_len] at len
  have e1 : det (k + 1) (repl (cls A (k + 1)) s (lc (md A k * mS A k k k) (colv A j) 0 (colv A j))) 0 = md A k * mS A k k k * mS A (k + 1) s j := by
    unfold repl
    rw [det_lin _ _ _ _ _ _ _ _ len]
    have : mS A (k + 1) s j = det (k + 1) (repl (cls A (k + 1)) s (colv A j)) 0 := by unfold mS; rw [if_pos (by omega)]
    rw [this]
    unfold repl
    omega
  have e2 : det (k + 1) (repl (cls A (k + 1)) s (sumv (List.range (k + 1)) (cfs A k j) (colv A))) 0 = mT A k s j * md A (k + 1) := by
    unfold repl
    rw [det_sumv len, sum_one (s := s) List.nodup_range (List.mem_range.mpr (by omega))]
    · have h1 := repl_self hl
      rw [cls_at] at h1
      unfold repl at h1
      rw [h1]
      unfold cfs md
      rw [if_pos hs]
    · intro t ht n
      have ht' : t < (cls A (k + 1)).length := by rw [cls_len]; exact List.mem_range.mp ht
      have h1 := repl_other hl ht' n (r := 0)
      rw [cls_at, cls_len] at h1
      unfold repl at h1
      rw [h1, Int.mul_zero]
  have e3 : det (k + 1) (repl (cls A (k + 1)) s (lc (md A k * mS A k k k) (colv A j) 0 (colv A j))) 0 = det (k + 1) (repl (cls A (k + 1)) s (sumv (List.range (k + 1)) (cfs A k j) (colv A))) 0 := by
    have rf : ∀ L : List Vc, Ag 0 (k + 1) L L := fun L => by
      induction L with
      | nil => exact .nil
      | cons a L ih => exact .cons (fun _ _ => rfl) ih
    refine det_ag _ _ ((rf _).app (.cons (fun p hp => ?_) (rf _)))
    rw [Nat.zero_add]
    have := cmb_cfs h p j
    rw [if_neg (by omega), Int.add_zero] at this
    show md A k * mS A k k k * A p j + 0 * A p j = (List.map (fun t => cfs A k j t * A p t) (List.range (k + 1))).sum
    rw [this, Int.zero_mul, Int.add_zero]
  rw [e1, e2, md_succ] at e3
  refine Int.eq_of_mul_eq_mul_left hp ?_
  rw [← Int.mul_assoc, Int.mul_comm (mS A k k k) (md A k), e3, Int.mul_comm]
theorem step_more {k i : Nat} (h : Cmb A k) (hp : mS A k k k ≠ 0) (hi : k < i) (j : Nat) : md A k * mS A (k + 1) i j = mT A k i j := by
  have hB : ∀ p, p < k + 1 → ∀ j, bord A (k + 1) i p j = A p j := fun p hp j => bord_at hp j
  have hB2 : ∀ j, bord A (k + 1) i (k + 1) j = A i j := fun j => bord_last
  generalize hb : bord A (k + 1) i = B at hB hB2
  have len : (cls B (k + 1)).length + ([] : List Vc).length + 1 = k + 1 + 1 := by rw [cls_len]; rfl
  have e0 : mS A (k + 1) i j = det (k + 1 + 1) (cls B (k + 1) ++ [colv B j]) 0 := by
    unfold mS
    rw [if_neg (by omega), hb]
  let e : Vc := fun p => if p = k + 1 then mT A k i j else 0
  have e1 : det (k + 1 + 1) (cls B (k + 1) ++ [lc (md A k * mS A k k k) (colv B j) 0 (colv B j)]) 0 = md A k * mS A k k k * mS A (k + 1) i j := by
    rw [det_lin _ _ _ _ _ _ _ _ len, e0]
    omega
  have e2 : det (k + 1 + 1) (cls B (k + 1) ++ [lc 1 (sumv (List.range (k + 1)) (cfs A k j) (colv B)) 1 e]) 0 = mT A k i j * md A (k + 1) := by
    rw [det_lin _ _ _ _ _ _ _ _ len, det_sumv len, sum_zero]
    · rw [det_last (k + 1) 0 (cls B (k + 1)) e (mT A k i j) (cls_len B (k + 1)) (fun p hp => by show (if 0 + p = k + 1 then _ else _) = _; rw [if_neg (by omega)]) (by show (if 0 + (k + 1) = k + 1 then _ else _) = _; rw [if_pos (by omega)])]
      have : det (k + 1) (cls B (k + 1)) 0 = md A (k + 1) := by
        unfold md
        refine det_ag _ _ (ag_map fun t _ p hp => ?_)
        rw [Nat.zero_add]
        exact hB p hp t
      rw [this]
      omega
    · intro t ht
      have hm : colv B t ∈ cls B (k + 1) := List.mem_map.mpr ⟨t, ht, rfl⟩
      rw [det_two len (.inl hm), Int.mul_zero]
  have e3 : det (k + 1 + 1) (cls B (k + 1) ++ [lc (md A k * mS A k k k) (colv B j) 0 (colv B j)]) 0 = det (k + 1 + 1) (cls B (k + 1) ++ [lc 1 (sumv (List.range (k + 1)) (cfs A k j) (colv B)) 1 e]) 0 := by
    have rf : ∀ L : List Vc, Ag 0 (k + 1 + 1) L L := fun L => by
      induction L with
      | nil => exact .nil
      | cons a L ih => exact .cons (fun _ _ => rfl) ih
    refine det_ag _ _ ((rf _).app (.cons (fun p hp => ?_) .nil))
    rw [Nat.zero_add]
    show md A k * mS A k k k * B p j + 0 * B p j = 1 * (List.map (fun t => cfs A k j t * B p t) (List.range (k + 1))).sum + 1 * (if p = k + 1 then mT A k i j else 0)
    rw [Int.zero_mul, Int.add_zero, Int.one_mul, Int.one_mul]
    by_cases c : p < k + 1
    · have := cmb_cfs h p j
      rw [if_neg (by omega), Int.add_zero] at this
      rw [if_neg (by omega), Int.add_zero, hB p c, this]
      exact sum_ext fun t _ => by rw [hB p c]
    · have ep : p = k + 1 := by omega
      subst ep
      have := cmb_cfs h i j
      rw [if_pos hi] at this
      rw [if_pos rfl, hB2, this]
      congr 1
      exact sum_ext fun t _ => by rw [hB2]
  rw [e1, e2, md_succ] at e3
  refine Int.eq_of_mul_eq_mul_left hp ?_
  rw [← Int.mul_assoc, Int.mul_comm (mS A k k k) (md A k), e3, Int.mul_comm]
/-- what the step divides, it divides evenly -/
theorem bar_step {k i : Nat} (h : Cmb A k) (hp : mS A k k k ≠ 0) (hi : i ≠ k) (j : Nat) : md A k * mS A (k + 1) i j = mT A k i j := by
  rcases Nat.lt_or_gt_of_ne hi with c | c
  · exact step_less h hp c j
  · exact step_more h hp c j
theorem cmb_succ {k : Nat} (h : Cmb A k) (hd : md A k ≠ 0) (hp : mS A k k k ≠ 0) : Cmb A (k + 1) := fun i j => by
  refine Int.eq_of_mul_eq_mul_left hd ?_
  rw [md_succ, ← Int.mul_assoc, cmb_cfs h, Int.mul_add, ← sum_mul]
  congr 1
  · refine sum_ext fun t ht => ?_
    rw [← Int.mul_assoc]
    congr 1
    unfold cfs
    by_cases c : t < k
    · rw [if_pos c, bar_step h hp (by omega)]
    · have : t = k := by have := List.mem_range.mp ht; omega
      rw [if_neg c, this, mS_pivot]
  · by_cases c : k < i
    · rw [if_pos c, if_pos (by omega), bar_step h hp (by omega)]
    · rw [if_neg c, if_neg (by omega), Int.mul_zero]
end
/-! ### rows that are more than what comes back -/
def rsum (g : Nat → Int) (k m : Nat) : Int := ((List.range' k m).map g).sum
theorem rsum_succ (g : Nat → Int) (k m : Nat) : rsum g k (m + 1) = g k + rsum g (k + 1) m := by
  unfold rsum
  rw [List.range'_succ, List.map_cons, List.sum_cons]
theorem rsum_le {g : Nat → Int} : ∀ (m k : Nat), (∀ j, k ≤ j → j < k + m → g j ≤ 0) → rsum g k m ≤ 0
  | 0, k, _ => by show (0 : Int) ≤ 0; omega
  | m + 1, k, h => by
    rw [rsum_succ]
    have h1 := h k (by omega) (by omega)
    have h2 := rsum_le m (k + 1) fun j a b => h j (by omega) (by omega)
    omega
theorem rsum_lin {g h : Nat → Int} (a b : Int) : ∀ (m k : Nat), rsum (fun j => a * g j - b * h j) k m = a * rsum g k m - b * rsum h k m
  | 0, k => by show (0 : Int) = a * 0 - b * 0; omega
  | m + 1, k => by
    rw [rsum_succ, rsum_succ, rsum_succ, rsum_lin a b m (k + 1), Int.mul_add, Int.mul_add]
    omega
theorem rsum_ext {g h : Nat → Int} : ∀ (m k : Nat), (∀ j, k ≤ j → j < k + m → g j = h j) → rsum g k m = rsum h k m
  | 0, k, _ => rfl
  | m + 1, k, e => by
    rw [rsum_succ, rsum_succ, e k (by omega) (by omega), rsum_ext m (k + 1) fun j a b => e j (by omega) (by omega)]
theorem rsum_mul {g : Nat → Int} (c : Int) : ∀ (m k : Nat), rsum (fun j => c * g j) k m = c * rsum g k m
  | 0, k => by show (0 : Int) = c * 0; omega
  | m + 1, k => by rw [rsum_succ, rsum_succ, rsum_mul c m (k + 1), Int.mul_add]
theorem rsum_zero (g : Nat → Int) (n : Nat) : rsum g 0 n = ((List.range n).map g).sum := by
  unfold rsum
  rw [List.range_eq_range']
structure Zm (n k : Nat) (f : Nat → Nat → Int) : Prop where
  off : ∀ i j, k ≤ i → i < n → k ≤ j → j < n → i ≠ j → f i j ≤ 0
  row : ∀ i, k ≤ i → i < n → 0 < rsum (f i) k (n - k)
theorem Zm.piv {n k : Nat} {f : Nat → Nat → Int} (Z : Zm n k f) (h : k < n) : 0 < f k k := by
  have h1 := Z.row k (Nat.le_refl _) h
  rw [show n - k = (n - k - 1) + 1 by omega, rsum_succ] at h1
  have h2 := rsum_le (g := f k) (n - k - 1) (k + 1) fun j a b => Z.off k j (Nat.le_refl _) h (by omega) (by omega) (by omega)
  omega
theorem Zm.step {A : Nat → Nat → Int} {n k : Nat} (C : Cmb A k) (hd : 0 < md A k) (Z : Zm n k (mS A k)) (h : k < n) : Zm n (k + 1) (mS A (k + 1)) := by
  have p := Z.piv h
  have ne : mS A k k k ≠ 0 := by omega
  have cut : ∀ x : Int, md A k * x ≤ 0 → x ≤ 0 := fun x hx => by
    rcases Int.lt_or_le 0 x with c | c
    · have := Int.mul_pos hd c; omega
    · exact c
  have cut2 : ∀ x : Int, 0 < md A k * x → 0 < x := fun x hx => by
    rcases Int.lt_or_le 0 x with c | c
    · exact c
    · have := Int.mul_nonneg_of_nonpos_of_nonpos (show -md A k ≤ 0 by omega) c
      rw [Int.neg_mul] at this; omega
  refine ⟨fun i j a1 a2 a3 a4 a5 => cut _ ?_, fun i a1 a2 => cut2 _ ?_⟩
  · rw [bar_step C ne (by omega)]
    unfold mT
    have h1 := Z.off i j (by omega) a2 (by omega) a4 a5
    have h2 := Z.off i k (by omega) a2 (Nat.le_refl _) h (by omega)
    have h3 := Z.off k j (Nat.le_refl _) h (by omega) a4 (by omega)
    have h4 : mS A k k k * mS A k i j ≤ 0 := Int.mul_nonpos_of_nonneg_of_nonpos (by omega) h1
    have h5 : 0 ≤ mS A k i k * mS A k k j := Int.mul_nonneg_of_nonpos_of_nonpos h2 h3
    omega
  · rw [← rsum_mul]
    have e : rsum (fun j => md A k * mS A (k + 1) i j) (k + 1) (n - (k + 1)) = mS A k k k * rsum (mS A k i) (k + 1) (n - (k + 1)) - mS A k i k * rsum (mS A k k) (k + 1) (n - (k + 1)) := by
      rw [← rsum_lin]
      exact rsum_ext _ _ fun j _ _ => bar_step C ne (by omega) j
    have r1 := Z.row i (by omega) a2
    have r2 := Z.row k (Nat.le_refl _) h
    rw [show n - k = (n - (k + 1)) + 1 by omega, rsum_succ] at r1 r2
    have h2 := Z.off i k (by omega) a2 (Nat.le_refl _) h (by omega)
    rw [e]
    generalize rsum (mS A k i) (k + 1) (n - (k + 1)) = R1 at r1
    generalize rsum (mS A k k) (k + 1) (n - (k + 1)) = R2 at r2
    have h3 : 0 < mS A k k k * (mS A k i k + R1) := Int.mul_pos p r1
    have h4 : mS A k i k * (mS A k k k + R2) ≤ 0 := Int.mul_nonpos_of_nonpos_of_nonneg h2 (by omega)
    rw [Int.mul_add] at h3 h4
    rw [Int.mul_comm (mS A k i k) (mS A k k k)] at h4
    omega
theorem Zm.all {A : Nat → Nat → Int} {n : Nat} (Z : Zm n 0 A) : ∀ k, k ≤ n → Cmb A k ∧ 0 < md A k ∧ Zm n k (mS A k)
  | 0, _ => ⟨cmb_zero, by rw [md_zero]; decide, by
    have : mS A 0 = A := by funext i j; exact mS_zero i j
    rw [this]; exact Z⟩
  | k + 1, h => by
    obtain ⟨c, d, z⟩ := Zm.all Z k (by omega)
    have p := z.piv (by omega)
    exact ⟨cmb_succ c (by omega) (by omega), by rw [md_succ]; exact p, z.step c d (by omega)⟩
/-- the solution -/
theorem Zm.sol {A : Nat → Nat → Int} {n : Nat} (Z : Zm n 0 A) {i : Nat} (hi : i < n) (j : Nat) : ((List.range n).map fun t => A i t * mS A n t j).sum = md A n * A i j := by
  have := (Z.all n (Nat.le_refl _)).1 i j
  rw [if_neg (by omega), Int.add_zero] at this
  rw [this]
  exact sum_ext fun t _ => Int.mul_comm _ _
theorem max_at (z : Nat → Int) : ∀ n, 0 < n → ∃ s, s < n ∧ ∀ t, t < n → z t ≤ z s
  | 0, h => absurd h (Nat.lt_irrefl _)
  | 1, _ => ⟨0, by decide, fun t h => by rw [show t = 0 by omega]; exact Int.le_refl _⟩
  | n + 2, _ => by
    obtain ⟨s, h1, h2⟩ := max_at z (n + 1) (by omega)
    by_cases c : z s ≤ z (n + 1)
    · refine ⟨n + 1, by omega, fun t ht => ?_⟩
      by_cases e : t = n + 1
      · rw [e]; exact Int.le_refl _
      · exact Int.le_trans (h2 t (by omega)) c
    · refine ⟨s, by omega, fun t ht => ?_⟩
      by_cases e : t = n + 1
      · rw [e]; omega
      · exact h2 t (by omega)
theorem sum_le {g h : Nat → Int} : ∀ {l : List Nat}, (∀ t ∈ l, g t ≤ h t) → (l.map g).sum ≤ (l.map h).sum
  | [], _ => Int.le_refl _
  | t :: l, e => by
    rw [List.map_cons, List.map_cons, List.sum_cons, List.sum_cons]
    have h1 := e t List.mem_cons_self
    have h2 := sum_le (l := l) fun x hx => e x (List.mem_cons_of_mem _ hx)
    omega
theorem Zm.below {A : Nat → Nat → Int} {n : Nat} (Z : Zm n 0 A) {z : Nat → Int} (h : ∀ i, i < n → ((List.range n).map fun t => A i t * z t).sum = 0) : ∀ t, t < n → z t ≤ 0 := by
  intro t ht
  obtain ⟨s, s1, s2⟩ := max_at z n (by omega)
  rcases Int.lt_or_le 0 (z s) with c | c
  · exfalso
    have h1 := h s s1
    have h2 : ((List.range n).map fun t => A s t * z s).sum ≤ ((List.range n).map fun t => A s t * z t).sum := sum_le fun j hj => by
      have jn := List.mem_range.mp hj
      by_cases e : j = s
      · rw [e]; exact Int.le_refl _
      · have a := Z.off s j (Nat.zero_le _) s1 (Nat.zero_le _) jn (fun x => e x.symm)
        have b := s2 j jn
        have := Int.mul_nonneg_of_nonpos_of_nonpos a (show z j - z s ≤ 0 by omega)
        rw [Int.mul_sub] at this
        omega
    have h3 : ((List.range n).map fun t => A s t * z s).sum = z s * ((List.range n).map (A s)).sum := by
      rw [← sum_mul]
      exact sum_ext fun t _ => Int.mul_comm _ _
    have h4 := Z.row s (Nat.zero_le _) s1
    rw [Nat.sub_zero, rsum_zero] at h4
    have := Int.mul_pos c h4
    omega
  · exact Int.le_trans (s2 t ht) c
theorem Zm.only {A : Nat → Nat → Int} {n : Nat} (Z : Zm n 0 A) {z : Nat → Int} (h : ∀ i, i < n → ((List.range n).map fun t => A i t * z t).sum = 0) (t : Nat) (ht : t < n) : z t = 0 := by
  have h1 := Z.below h t ht
  have h2 := Z.below (z := fun t => -1 * z t) (fun i hi => by
    have : ((List.range n).map fun t => A i t * (-1 * z t)).sum = -1 * ((List.range n).map fun t => A i t * z t).sum := by
      rw [← sum_mul]
      exact sum_ext fun t _ => Int.mul_left_comm _ _ _
    rw [this, h i hi]; rfl) t ht
  omega
/-- two solutions over their bottoms are one -/
theorem Zm.uniq {A : Nat → Nat → Int} {n : Nat} (Z : Zm n 0 A) {x y b : Nat → Int} {d q : Int} (hx : ∀ i, i < n → ((List.range n).map fun t => A i t * x t).sum = d * b i) (hy : ∀ i, i < n → ((List.range n).map fun t => A i t * y t).sum = q * b i) (t : Nat) (ht : t < n) : q * x t = d * y t := by
  have := Z.only (z := fun t => q * x t - d * y t) (fun i hi => by
    have e : ((List.range n).map fun t => A i t * (q * x t - d * y t)).sum = q * ((List.range n).map fun t => A i t * x t).sum - d * ((List.range n).map fun t => A i t * y t).sum := by
      rw [← sum_mul, ← sum_mul, ← sum_sub]
      exact sum_ext fun t _ => by rw [Int.mul_sub, Int.mul_left_comm, Int.mul_left_comm (A i t) d]
    rw [e, hx i hi, hy i hi, Int.mul_left_comm]
    omega) t ht
  omega
/-! how large the entries are -/
theorem dbd_mono {M : Nat} : ∀ {a b : Nat}, a ≤ b → 1 ≤ M → dbd M a ≤ dbd M b := fun {a b} h hM => by
  have one : ∀ n, dbd M n ≤ dbd M (n + 1) := fun n => by
    show dbd M n ≤ (n + 1) * (M * dbd M n)
    have h1 : 1 * dbd M n ≤ M * dbd M n := Nat.mul_le_mul_right _ hM
    have h2 : 1 * (M * dbd M n) ≤ (n + 1) * (M * dbd M n) := Nat.mul_le_mul_right _ (by omega)
    omega
  induction h with
  | refl => exact Nat.le_refl _
  | step _ ih => exact Nat.le_trans ih (one _)
theorem mS_le {A : Nat → Nat → Int} {M : Nat} (h : ∀ i j, (A i j).natAbs ≤ M) (hM : 1 ≤ M) (k i j : Nat) : (mS A k i j).natAbs ≤ dbd M (k + 1) := by
  unfold mS
  have hc : ∀ B : Nat → Nat → Int, (∀ i j, (B i j).natAbs ≤ M) → ∀ c ∈ cls B k, ∀ i, (c i).natAbs ≤ M := fun B hB c hm p => by
    obtain ⟨t, _, rfl⟩ := List.mem_map.mp hm
    exact hB p t
  split
  · rename_i hk
    refine Nat.le_trans (det_le k 0 _ ?_ fun c hm p => ?_) (dbd_mono (Nat.le_succ _) hM)
    · have := repl_len (L := cls A k) (s := i) (colv A j) (by rw [cls_len]; exact hk)
      unfold repl
      rw [List.length_append, List.length_cons, ← Nat.add_assoc, this, cls_len]
    · rcases List.mem_append.mp hm with hm | hm
      · exact hc A h c (List.mem_of_mem_take hm) p
      · rcases List.mem_cons.mp hm with rfl | hm
        · exact h p j
        · exact hc A h c (List.mem_of_mem_drop hm) p
  · have hB : ∀ p j, (bord A k i p j).natAbs ≤ M := fun p j => by
      unfold bord
      split
      · exact h p j
      · exact h i j
    refine det_le (k + 1) 0 _ (by rw [List.length_append, cls_len]; rfl) fun c hm p => ?_
    rcases List.mem_append.mp hm with hm | hm
    · exact hc _ hB c hm p
    · rw [List.mem_singleton.mp hm]; exact hB p j
theorem md_le {A : Nat → Nat → Int} {M : Nat} (h : ∀ i j, (A i j).natAbs ≤ M) (k : Nat) : (md A k).natAbs ≤ dbd M k := det_le k 0 _ (cls_len A k) fun c hm p => by
  obtain ⟨t, _, rfl⟩ := List.mem_map.mp hm
  exact h p t
/-! by columns -/
def bpr (β : Vc → Nat) : List Vc → Nat
  | [] => 1
  | c :: L => β c * bpr β L
theorem bpr_app (β : Vc → Nat) : ∀ X Y, bpr β (X ++ Y) = bpr β X * bpr β Y
  | [], Y => by simp [bpr]
  | c :: X, Y => by
    show β c * bpr β (X ++ Y) = β c * bpr β X * bpr β Y
    rw [bpr_app β X Y, Nat.mul_assoc]
def dfac : Nat → Nat
  | 0 => 1
  | n + 1 => (n + 1) * dfac n
theorem dsum_leB {f : List Vc → Int} {β : Vc → Nat} {r n C : Nat} (hf : ∀ K : List Vc, K.length = n → (∀ c ∈ K, ∀ i, (c i).natAbs ≤ β c) → (f K).natAbs ≤ C * bpr β K) : ∀ Q P : List Vc, P.length + Q.length = n + 1 → (∀ c ∈ P, ∀ i, (c i).natAbs ≤ β c) → (∀ c ∈ Q, ∀ i, (c i).natAbs ≤ β c) → (dsum f r P Q).natAbs ≤ Q.length * (C * bpr β (P ++ Q))
  | [], P, _, _, _ => by simp [dsum]
  | c :: Q, P, l, hp, hq => by
    rw [List.length_cons] at l
    have hc := hq c List.mem_cons_self
    have hq' : ∀ c ∈ Q, ∀ i, (c i).natAbs ≤ β c := fun x hx => hq x (List.mem_cons_of_mem _ hx)
    have ih := dsum_leB (r := r) hf Q (P ++ [c]) (by rw [List.length_append, List.length_singleton]; omega) (fun x hx => by
      rcases List.mem_append.mp hx with h | h
      · exact hp x h
      · rw [List.mem_singleton.mp h]; exact hc) hq'
    have h1 := hf (P ++ Q) (by rw [List.length_append]; omega) fun x hx => by
      rcases List.mem_append.mp hx with h | h
      · exact hp x h
      · exact hq' x h
    rw [List.append_assoc] at ih
    simp only [dsum]
    rw [List.length_cons, Nat.succ_mul]
    have h2 : (c r * f (P ++ Q)).natAbs ≤ C * bpr β (P ++ c :: Q) := by
      rw [Int.natAbs_mul]
      refine Nat.le_trans (Nat.mul_le_mul (hc r) h1) ?_
      rw [bpr_app, bpr_app]
      show _ ≤ C * (bpr β P * (β c * bpr β Q))
      rw [Nat.mul_left_comm (β c), Nat.mul_left_comm (bpr β P)]
      exact Nat.le_refl _
    have ih' : (dsum f r (P ++ [c]) Q).natAbs ≤ Q.length * (C * bpr β (P ++ c :: Q)) := ih
    omega
theorem det_leB {β : Vc → Nat} : ∀ (n r : Nat) (L : List Vc), L.length = n → (∀ c ∈ L, ∀ i, (c i).natAbs ≤ β c) → (det n L r).natAbs ≤ dfac n * bpr β L
  | 0, _, L, l, _ => by
    have : L = [] := List.length_eq_zero_iff.mp l
    rw [this]
    show (1 : Int).natAbs ≤ 1 * 1
    decide
  | n + 1, r, L, l, h => by
    have := dsum_leB (r := r) (C := dfac n) (fun K lk hk => det_leB n (r + 1) K lk hk) L [] (by simp [l]) (fun _ h => nomatch h) h
    rw [l, List.nil_append, ← Nat.mul_assoc] at this
    exact this
theorem bpr_le {β : Vc → Nat} {M : Nat} : ∀ L : List Vc, (∀ c ∈ L, β c ≤ M) → bpr β L ≤ M ^ L.length
  | [], _ => Nat.le_refl _
  | c :: L, h => by
    rw [List.length_cons, Nat.pow_succ, Nat.mul_comm]
    exact Nat.mul_le_mul (h c List.mem_cons_self) (bpr_le L fun x hx => h x (List.mem_cons_of_mem _ hx))
/-- the solution's tops: one column is of the sums -/
theorem mS_leB {A : Nat → Nat → Int} {n M N : Nat} (h : ∀ i j, j < n → (A i j).natAbs ≤ M) (hr : ∀ i, (A i n).natAbs ≤ N) (hMN : M ≤ N) {t : Nat} (ht : t < n) : (mS A n t n).natAbs ≤ dfac n * (M ^ (n - 1) * N) := by
  unfold mS
  rw [if_pos ht]
  have cl : ∀ c ∈ cls A n, ∀ i, (c i).natAbs ≤ M := fun c hm p => by
    obtain ⟨t, ht, rfl⟩ := List.mem_map.mp hm
    exact h p t (List.mem_range.mp ht)
  have len := repl_len (L := cls A n) (s := t) (colv A n) (by rw [cls_len]; exact ht)
  rw [cls_len] at len
  open Classical in
  let β : Vc → Nat := fun c => if ∀ i, (c i).natAbs ≤ M then M else N
  have bM : ∀ c : Vc, (∀ i, (c i).natAbs ≤ M) → β c = M := fun c hc => if_pos hc
  have bN : ∀ c : Vc, β c ≤ N := fun c => by
    show (if _ then M else N) ≤ N
    split
    · exact hMN
    · exact Nat.le_refl _
  have := det_leB (β := β) n 0 (repl (cls A n) t (colv A n)) (by unfold repl; rw [List.length_append, List.length_cons]; omega) fun c hm p => by
    show _ ≤ (if _ then M else N)
    split
    · rename_i g; exact g p
    · rcases List.mem_append.mp hm with hm | hm
      · exact Nat.le_trans (cl c (List.mem_of_mem_take hm) p) hMN
      · rcases List.mem_cons.mp hm with rfl | hm
        · exact hr p
        · exact Nat.le_trans (cl c (List.mem_of_mem_drop hm) p) hMN
  refine Nat.le_trans this (Nat.mul_le_mul_left _ ?_)
  unfold repl
  rw [bpr_app]
  show _ * (β _ * bpr β _) ≤ _
  have h1 := bpr_le (β := β) (M := M) ((cls A n).take t) fun c hc => by rw [bM c (cl c (List.mem_of_mem_take hc))]; exact Nat.le_refl _
  have h2 := bpr_le (β := β) (M := M) ((cls A n).drop (t + 1)) fun c hc => by rw [bM c (cl c (List.mem_of_mem_drop hc))]; exact Nat.le_refl _
  have h3 := Nat.mul_le_mul h1 (Nat.mul_le_mul (bN (colv A n)) h2)
  refine Nat.le_trans h3 ?_
  rw [Nat.mul_left_comm, ← Nat.pow_add, Nat.mul_comm]
  refine Nat.mul_le_mul_right _ ?_
  rw [show ((cls A n).take t).length + ((cls A n).drop (t + 1)).length = n - 1 by omega]
  exact Nat.le_refl _
theorem md_leB {A : Nat → Nat → Int} {n M : Nat} (h : ∀ i j, j < n → (A i j).natAbs ≤ M) : (md A n).natAbs ≤ dfac n * M ^ n := by
  have := det_leB (β := fun _ => M) n 0 (cls A n) (cls_len A n) fun c hm p => by
    obtain ⟨t, ht, rfl⟩ := List.mem_map.mp hm
    exact h p t (List.mem_range.mp ht)
  refine Nat.le_trans this (Nat.mul_le_mul_left _ ?_)
  have := bpr_le (β := fun _ => M) (M := M) (cls A n) fun _ _ => Nat.le_refl _
  rw [cls_len] at this
  exact this
end My.Dt

set_option linter.all false
namespace My.Dt
/-! ### rows that are no less than what comes back, each with a way to one that is more -/
inductive Esc (n k : Nat) (f : Nat → Nat → Int) : Nat → Prop
  | leaf {i : Nat} : k ≤ i → i < n → 0 < rsum (f i) k (n - k) → Esc n k f i
  | step {i j : Nat} : k ≤ i → i < n → k ≤ j → j < n → i ≠ j → f i j < 0 → Esc n k f j → Esc n k f i
structure Zw (n k : Nat) (f : Nat → Nat → Int) : Prop where
  off : ∀ i j, k ≤ i → i < n → k ≤ j → j < n → i ≠ j → f i j ≤ 0
  row : ∀ i, k ≤ i → i < n → 0 ≤ rsum (f i) k (n - k)
  way : ∀ i, k ≤ i → i < n → Esc n k f i
theorem rsum_neg {g : Nat → Int} : ∀ (m k : Nat), (∀ j, k ≤ j → j < k + m → g j ≤ 0) → ∀ s, k ≤ s → s < k + m → g s < 0 → rsum g k m < 0
  | 0, k, _, s, a, b, _ => absurd b (by omega)
  | m + 1, k, h, s, a, b, c => by
    rw [rsum_succ]
    by_cases e : s = k
    · subst e
      have := rsum_le m (s + 1) fun j a b => h j (by omega) (by omega)
      omega
    · have h1 := h k (by omega) (by omega)
      have h2 := rsum_neg m (k + 1) (fun j a b => h j (by omega) (by omega)) s (by omega) (by omega) c
      omega
theorem Zw.piv {n k : Nat} {f : Nat → Nat → Int} (Z : Zw n k f) (h : k < n) : 0 < f k k := by
  have off := fun j (a : k + 1 ≤ j) (b : j < k + 1 + (n - k - 1)) => Z.off k j (Nat.le_refl _) h (by omega) (by omega) (by omega)
  cases Z.way k (Nat.le_refl _) h with
  | leaf _ _ h1 =>
    rw [show n - k = (n - k - 1) + 1 by omega, rsum_succ] at h1
    have h2 := rsum_le (g := f k) (n - k - 1) (k + 1) off
    omega
  | step _ _ h3 h4 h5 h6 _ =>
    have h1 := Z.row k (Nat.le_refl _) h
    rw [show n - k = (n - k - 1) + 1 by omega, rsum_succ] at h1
    have h2 := rsum_neg (g := f k) (n - k - 1) (k + 1) off _ (by omega) (by omega) h6
    omega
theorem Zw.step {A : Nat → Nat → Int} {n k : Nat} (C : Cmb A k) (hd : 0 < md A k) (Z : Zw n k (mS A k)) (h : k < n) : Zw n (k + 1) (mS A (k + 1)) := by
  have p := Z.piv h
  have ne : mS A k k k ≠ 0 := by omega
  have cutN : ∀ x : Int, md A k * x < 0 → x < 0 := fun x hx => by
    rcases Int.lt_or_le x 0 with c | c
    · exact c
    · have := Int.mul_nonneg (Int.le_of_lt hd) c; omega
  have cut : ∀ x : Int, md A k * x ≤ 0 → x ≤ 0 := fun x hx => by
    rcases Int.lt_or_le 0 x with c | c
    · have := Int.mul_pos hd c; omega
    · exact c
  have cut2 : ∀ x : Int, 0 < md A k * x → 0 < x := fun x hx => by
    rcases Int.lt_or_le 0 x with c | c
    · exact c
    · have := Int.mul_nonneg_of_nonpos_of_nonpos (show -md A k ≤ 0 by omega) c
      rw [Int.neg_mul] at this; omega
  have cut3 : ∀ x : Int, 0 ≤ md A k * x → 0 ≤ x := fun x hx => by
    rcases Int.lt_or_le x 0 with c | c
    · have := Int.mul_neg_of_pos_of_neg hd c; omega
    · exact c
  have sums : ∀ i, k + 1 ≤ i → i < n → md A k * rsum (mS A (k + 1) i) (k + 1) (n - (k + 1)) = mS A k k k * rsum (mS A k i) k (n - k) - mS A k i k * rsum (mS A k k) k (n - k) := fun i a1 a2 => by
    rw [← rsum_mul]
    have e : rsum (fun j => md A k * mS A (k + 1) i j) (k + 1) (n - (k + 1)) = mS A k k k * rsum (mS A k i) (k + 1) (n - (k + 1)) - mS A k i k * rsum (mS A k k) (k + 1) (n - (k + 1)) := by
      rw [← rsum_lin]
      exact rsum_ext _ _ fun j _ _ => bar_step C ne (by omega) j
    rw [e, show n - k = (n - (k + 1)) + 1 by omega, rsum_succ, rsum_succ, Int.mul_add, Int.mul_add, Int.mul_comm (mS A k i k) (mS A k k k)]
    omega
  have offk : ∀ i, k + 1 ≤ i → i < n → mS A k i k ≤ 0 := fun i a1 a2 => Z.off i k (by omega) a2 (Nat.le_refl _) h (by omega)
  have more1 : ∀ i, k + 1 ≤ i → i < n → 0 < rsum (mS A k i) k (n - k) → 0 < rsum (mS A (k + 1) i) (k + 1) (n - (k + 1)) := fun i a1 a2 c => cut2 _ (by
    rw [sums i a1 a2]
    have h3 := Int.mul_pos p c
    have h4 := Int.mul_nonpos_of_nonpos_of_nonneg (offk i a1 a2) (Z.row k (Nat.le_refl _) h)
    omega)
  have more2 : ∀ i, k + 1 ≤ i → i < n → mS A k i k < 0 → 0 < rsum (mS A k k) k (n - k) → 0 < rsum (mS A (k + 1) i) (k + 1) (n - (k + 1)) := fun i a1 a2 c1 c2 => cut2 _ (by
    rw [sums i a1 a2]
    have h3 := Int.mul_nonneg (Int.le_of_lt p) (Z.row i (by omega) a2)
    have h4 := Int.mul_neg_of_neg_of_pos c1 c2
    omega)
  have edge1 : ∀ i j, k + 1 ≤ i → i < n → k + 1 ≤ j → j < n → mS A k i j < 0 → mS A (k + 1) i j < 0 := fun i j a1 a2 a3 a4 c => cutN _ (by
    rw [bar_step C ne (by omega)]
    unfold mT
    have h4 := Int.mul_neg_of_pos_of_neg p c
    have h5 := Int.mul_nonneg_of_nonpos_of_nonpos (offk i a1 a2) (Z.off k j (Nat.le_refl _) h (by omega) a4 (by omega))
    omega)
  have edge2 : ∀ i j, k + 1 ≤ i → i < n → k + 1 ≤ j → j < n → i ≠ j → mS A k i k < 0 → mS A k k j < 0 → mS A (k + 1) i j < 0 := fun i j a1 a2 a3 a4 a5 c1 c2 => cutN _ (by
    rw [bar_step C ne (by omega)]
    unfold mT
    have h4 : mS A k k k * mS A k i j ≤ 0 := Int.mul_nonpos_of_nonneg_of_nonpos (by omega) (Z.off i j (by omega) a2 (by omega) a4 a5)
    have h5 := Int.mul_pos_of_neg_of_neg c1 c2
    omega)
  have esc : ∀ i, Esc n k (mS A k) i → (i ≠ k → Esc n (k + 1) (mS A (k + 1)) i) ∧ (i = k → ∀ i', k + 1 ≤ i' → i' < n → mS A k i' k < 0 → Esc n (k + 1) (mS A (k + 1)) i') := fun i e => by
    induction e with
    | leaf a1 a2 c =>
      refine ⟨fun d => .leaf (by omega) a2 (more1 _ (by omega) a2 c), fun d i' b1 b2 b3 => ?_⟩
      subst d
      exact .leaf b1 b2 (more2 i' b1 b2 b3 c)
    | @step i j a1 a2 a3 a4 a5 c _ ih =>
      refine ⟨fun d => ?_, fun d i' b1 b2 b3 => ?_⟩
      · by_cases z : j = k
        · subst z
          exact ih.2 rfl i (by omega) a2 c
        · exact .step (by omega) a2 (by omega) a4 a5 (edge1 i j (by omega) a2 (by omega) a4 c) (ih.1 z)
      · subst d
        have jk : j ≠ i := fun z => a5 z.symm
        by_cases z : i' = j
        · rw [z]; exact ih.1 jk
        · exact .step b1 b2 (by omega) a4 z (edge2 i' j b1 b2 (by omega) a4 z b3 c) (ih.1 jk)
  refine ⟨fun i j a1 a2 a3 a4 a5 => cut _ ?_, fun i a1 a2 => cut3 _ ?_, fun i a1 a2 => (esc i (Z.way i (by omega) a2)).1 (by omega)⟩
  · rw [bar_step C ne (by omega)]
    unfold mT
    have h1 := Z.off i j (by omega) a2 (by omega) a4 a5
    have h2 := offk i a1 a2
    have h3 := Z.off k j (Nat.le_refl _) h (by omega) a4 (by omega)
    have h4 : mS A k k k * mS A k i j ≤ 0 := Int.mul_nonpos_of_nonneg_of_nonpos (by omega) h1
    have h5 : 0 ≤ mS A k i k * mS A k k j := Int.mul_nonneg_of_nonpos_of_nonpos h2 h3
    omega
  · rw [sums i a1 a2]
    have h3 := Int.mul_nonneg (Int.le_of_lt p) (Z.row i (by omega) a2)
    have h4 := Int.mul_nonpos_of_nonpos_of_nonneg (offk i a1 a2) (Z.row k (Nat.le_refl _) h)
    omega
theorem Zw.all {A : Nat → Nat → Int} {n : Nat} (Z : Zw n 0 A) : ∀ k, k ≤ n → Cmb A k ∧ 0 < md A k ∧ Zw n k (mS A k)
  | 0, _ => ⟨cmb_zero, by rw [md_zero]; decide, by
    have : mS A 0 = A := by funext i j; exact mS_zero i j
    rw [this]; exact Z⟩
  | k + 1, h => by
    obtain ⟨c, d, z⟩ := Zw.all Z k (by omega)
    have p := z.piv (by omega)
    exact ⟨cmb_succ c (by omega) (by omega), by rw [md_succ]; exact p, z.step c d (by omega)⟩
theorem Zw.sol {A : Nat → Nat → Int} {n : Nat} (Z : Zw n 0 A) {i : Nat} (hi : i < n) (j : Nat) : ((List.range n).map fun t => A i t * mS A n t j).sum = md A n * A i j := by
  have := (Z.all n (Nat.le_refl _)).1 i j
  rw [if_neg (by omega), Int.add_zero] at this
  rw [this]
  exact sum_ext fun t _ => Int.mul_comm _ _
theorem sum_nonpos {g : Nat → Int} : ∀ {l : List Nat}, (∀ t ∈ l, g t ≤ 0) → (l.map g).sum ≤ 0
  | [], _ => Int.le_refl 0
  | t :: l, h => by
    rw [List.map_cons, List.sum_cons]
    have h1 := h t List.mem_cons_self
    have h2 := sum_nonpos (l := l) fun x hx => h x (List.mem_cons_of_mem _ hx)
    omega
theorem sum_each {g : Nat → Int} : ∀ {l : List Nat}, (∀ t ∈ l, g t ≤ 0) → 0 ≤ (l.map g).sum → ∀ t ∈ l, g t = 0
  | t :: l, h, z, x, hx => by
    rw [List.map_cons, List.sum_cons] at z
    have h1 := h t List.mem_cons_self
    have hl := fun x hx => h x (List.mem_cons_of_mem _ hx)
    have h2 := sum_nonpos (l := l) hl
    rcases List.mem_cons.mp hx with rfl | hx
    · omega
    · exact sum_each (l := l) hl (by omega) x hx
theorem Zw.below {A : Nat → Nat → Int} {n : Nat} (Z : Zw n 0 A) {z : Nat → Int} (h : ∀ i, i < n → ((List.range n).map fun t => A i t * z t).sum = 0) : ∀ t, t < n → z t ≤ 0 := by
  intro t ht
  obtain ⟨s, s1, s2⟩ := max_at z n (by omega)
  rcases Int.lt_or_le 0 (z s) with c | c
  · exfalso
    have term : ∀ i j, i < n → z i = z s → j < n → A i j * (z s - z j) ≤ 0 := fun i j hi hz hj => by
      by_cases e : i = j
      · subst e; rw [hz, Int.sub_self, Int.mul_zero]; exact Int.le_refl 0
      · exact Int.mul_nonpos_of_nonpos_of_nonneg (Z.off i j (Nat.zero_le _) hi (Nat.zero_le _) hj e) (by have := s2 j hj; omega)
    have tot : ∀ i, i < n → ((List.range n).map fun t => A i t * (z s - z t)).sum = z s * ((List.range n).map (A i)).sum := fun i hi => by
      have e : ((List.range n).map fun t => A i t * (z s - z t)).sum = ((List.range n).map fun t => z s * A i t - A i t * z t).sum := sum_ext fun t _ => by rw [Int.mul_sub, Int.mul_comm (A i t) (z s)]
      rw [e, sum_sub, sum_mul, h i hi]; omega
    have none : ∀ i, Esc n 0 A i → z i = z s → False := fun i e => by
      induction e with
      | leaf _ a2 r =>
        intro hz
        rw [Nat.sub_zero, rsum_zero] at r
        have h1 := sum_nonpos (l := List.range n) fun t ht => term _ t a2 hz (List.mem_range.mp ht)
        rw [tot _ a2] at h1
        have := Int.mul_pos c r
        omega
      | @step i j _ a2 _ a4 a5 a6 _ ih =>
        intro hz
        have r := Z.row i (Nat.zero_le _) a2
        rw [Nat.sub_zero, rsum_zero] at r
        have h1 := sum_each (l := List.range n) (fun t ht => term i t a2 hz (List.mem_range.mp ht)) (by
          rw [tot i a2]
          exact Int.mul_nonneg (Int.le_of_lt c) r) j (List.mem_range.mpr a4)
        rcases Int.mul_eq_zero.mp h1 with q | q
        · omega
        · exact ih (by omega)
    exact none s (Z.way s (Nat.zero_le _) s1) rfl
  · exact Int.le_trans (s2 t ht) c
theorem Zw.only {A : Nat → Nat → Int} {n : Nat} (Z : Zw n 0 A) {z : Nat → Int} (h : ∀ i, i < n → ((List.range n).map fun t => A i t * z t).sum = 0) (t : Nat) (ht : t < n) : z t = 0 := by
  have h1 := Z.below h t ht
  have h2 := Z.below (z := fun t => -1 * z t) (fun i hi => by
    have : ((List.range n).map fun t => A i t * (-1 * z t)).sum = -1 * ((List.range n).map fun t => A i t * z t).sum := by
      rw [← sum_mul]
      exact sum_ext fun t _ => Int.mul_left_comm _ _ _
    rw [this, h i hi]; rfl) t ht
  omega
theorem Zw.uniq {A : Nat → Nat → Int} {n : Nat} (Z : Zw n 0 A) {x y b : Nat → Int} {d q : Int} (hx : ∀ i, i < n → ((List.range n).map fun t => A i t * x t).sum = d * b i) (hy : ∀ i, i < n → ((List.range n).map fun t => A i t * y t).sum = q * b i) (t : Nat) (ht : t < n) : q * x t = d * y t := by
  have := Z.only (z := fun t => q * x t - d * y t) (fun i hi => by
    have e : ((List.range n).map fun t => A i t * (q * x t - d * y t)).sum = q * ((List.range n).map fun t => A i t * x t).sum - d * ((List.range n).map fun t => A i t * y t).sum := by
      rw [← sum_mul, ← sum_mul, ← sum_sub]
      exact sum_ext fun t _ => by rw [Int.mul_sub, Int.mul_left_comm, Int.mul_left_comm (A i t) d]
    rw [e, hx i hi, hy i hi, Int.mul_left_comm]
    omega) t ht
  omega
end My.Dt

set_option linter.all false
namespace My
open PySem PySem.Spec PyProof.Rows L2
abbrev sSlv : Stmt := topS 7
/-! ### a list of lists of whole numbers, solved -/
structure MatL (H : Hp) (a : Addr) (n : Nat) (f : Nat → List Int) : Prop where
  ex : ∃ qs : List Addr, H a = some (.lst (qs.map V.ref)) ∧ qs.length = n ∧ ∀ (i : Nat) (q : Addr), qs[i]? = some q → H q = some (.lst ((f i).map V.int))
theorem MatL.same {H H' : Hp} {a : Addr} {n : Nat} {f : Nat → List Int} (h : MatL H a n f) (e : Same H H') : MatL H' a n f := by
  obtain ⟨qs, h1, h2, h3⟩ := h.ex
  exact ⟨⟨qs, e _ _ h1, h2, fun i q g => e _ _ (h3 i q g)⟩⟩
/-- a comprehension that makes a list at each turn -/
theorem lc_made {J : It} {n : Nat} {G : Hp → Prop} {Y : Nat → Hp → V → Hp → Prop} (w : Walk J n G Y) {g : TG} {tt : TT} {te : TE} {vs : List Nat} {σ : L2.St} {H1 : Hp} {D : Addr} {Qd : Hp → Prop} (f : Nat → List Int) (nD : H1 D = none) (hn : n ≤ sizeLine) (hG : ∀ H, Same H1 H → G H)
    (hs : ∀ i x H H', i < n → Same H1 H → Y i H x H' → ∀ (Q : VK) (R : Hp → Prop), (∀ q H4, Same H H4 → H q = none → H4 q = some (.lst ((f i).map V.int)) → Q (.ref q) H4) → g x (wipe σ vs) H' fun σ2 H2 => wipe σ2 vs = wipe σ vs ∧ tt σ2 H2 fun b H3 => if b = true then te σ2 H3 Q else R H3)
    (hd : ∀ H, Same H1 H → MatL H D n f → Qd H) :
    ∃ W : Nat → Nat → Hp → Prop, (∃ m, W 0 m (upd H1 D (.lst []))) ∧ ∀ i m H, W i m H →
      (J.stop i H ∧ Qd H) ∨ (J.go i H ∧ ∃ Nx : Hp → Prop, (∀ H', Nx H' → ∃ m', m' < m ∧ W (i + 1) m' H') ∧ ∀ x H', J.yld i H x H' → g x (wipe σ vs) H' fun σ2 H2 => wipe σ2 vs = wipe σ vs ∧ tt σ2 H2 fun b H3 =>
        if b = true then te σ2 H3 fun y H4 => ∃ acc, H4 D = some (.lst acc) ∧ acc.length < sizeLine ∧ Nx (upd H4 D (.lst (acc ++ [y]))) else Nx H3) := by
  refine lc_it w (fun i H => Same H1 H ∧ ∃ qs : List Addr, H D = some (.lst (qs.map V.ref)) ∧ qs.length = i ∧ ∀ (j : Nat) (q : Addr), qs[j]? = some q → q ≠ D ∧ H q = some (.lst ((f j).map V.int))) ⟨fun a o e => ?_, [], upd_same, rfl, fun j q h => by simp at h⟩ (fun i H _ h => hG H h.1) (fun i x H H' hi ⟨sa, qs, h1, h2, h3⟩ y => ?_) (fun H ⟨sa, qs, h1, h2, h3⟩ => hd H sa ⟨⟨qs, h1, h2, fun i q g => (h3 i q g).2⟩⟩)
  · rw [upd_ne (fun z => by rw [z, nD] at e; cases e)]; exact e
  · refine hs i x H H' hi sa y _ _ fun q H4 s4 nq hq => ?_
    refine ⟨_, s4 _ _ h1, by rw [List.length_map, h2]; omega, fun a o e => ?_, qs ++ [q], by rw [upd_same, List.map_append]; rfl, by rw [List.length_append, h2]; rfl, fun j z hz => ?_⟩
    · rw [upd_ne (fun z => by rw [z, nD] at e; cases e)]; exact s4 _ _ (sa _ _ e)
    · have qD : q ≠ D := fun z => by rw [z, h1] at nq; cases nq
      by_cases c : j < qs.length
      · rw [List.getElem?_append_left c] at hz
        obtain ⟨g1, g2⟩ := h3 j z hz
        refine ⟨g1, ?_⟩
        rw [upd_ne g1]
        exact s4 _ _ g2
      · rw [List.getElem?_append_right (by omega)] at hz
        have c2 : j - qs.length = 0 := by
          cases hj : j - qs.length with
          | zero => rfl
          | succ m => rw [hj] at hz; simp at hz
        rw [c2] at hz
        obtain rfl : q = z := by simpa using hz
        refine ⟨qD, ?_⟩
        rw [upd_ne qD, hq]
        have : j = i := by omega
        rw [this]
def rowS (A : Nat → Nat → Int) (n k i : Nat) : List Int := (List.range (n + 1 - k)).map fun j => Dt.mS A k i (k + j)
def spSlv : Sp := fun vs H Q _ => ∃ (a : Addr) (n : Nat) (A : Nat → Nat → Int), vs = [.ref a] ∧ n ≤ 8 ∧ Dt.Zw n 0 A ∧ MatL H a n (fun i => (List.range (n + 1)).map (A i)) ∧ (∀ k i j, k ≤ n → (Dt.mS A k i j).natAbs < 2 ^ 8000) ∧ (∀ k, k ≤ n → (Dt.md A k).natAbs < 2 ^ 8000) ∧
  ∀ (T L : Addr) (H' : Hp), Same H H' → H' T = some (.tup [.ref L, .int (Dt.md A n)]) → H' L = some (.lst (((List.range n).map fun t => Dt.mS A n t n).map V.int)) → Q (.ref T) H'
theorem row_tail {A : Nat → Nat → Int} {n k : Nat} (h : k < n) (i : Nat) : (rowS A n k i).drop 1 = (List.range (n - k)).map fun j => Dt.mS A k i (k + 1 + j) := by
  unfold rowS
  rw [show n + 1 - k = (n - k) + 1 by omega, List.range_succ_eq_map, List.map_cons, List.drop_succ_cons, List.drop_zero, List.map_map]
  refine List.map_congr_left fun j _ => ?_
  show Dt.mS A k i (k + (j + 1)) = _
  rw [show k + (j + 1) = k + 1 + j by omega]
theorem tyes {σ : L2.St} {H : Hp} {A R : Hp → Prop} (h : A H) : tYes σ H fun b H3 => if b = true then A H3 else R H3 := by
  unfold tYes; dsimp only; rw [if_pos rfl]; exact h
theorem same_upd {H : Hp} {a : Addr} {o : HO} (n : H a = none) : Same H (upd H a o) := fun b x e => by
  rw [upd_ne (fun z => by rw [z, n] at e; cases e)]; exact e
theorem ixN_nat {n i : Nat} (h : i < n) : ixN n (i : Int) = some i := by
  unfold ixN
  simp <;> omega
theorem atI_nat {α : Type} {xs : List α} {i : Nat} {v : α} (h : xs[i]? = some v) : atI xs (i : Int) = some v := by
  obtain ⟨hi, _⟩ := List.getElem?_eq_some_iff.mp h
  unfold atI
  rw [ixN_nat hi]; exact h
theorem cut_tail (xs : List V) : cutV xs (some 1) none = xs.drop 1 := by
  unfold cutV
  rw [show HT.sIx xs.length 0 (some 1) = min 1 xs.length from HT.sIx_nat _ _ 1, HT.sIx_none]
  cases xs with
  | nil => rfl
  | cons x r => rw [show min 1 (x :: r).length = 1 by simp, ← List.length_drop, List.take_length]
theorem row_at {A : Nat → Nat → Int} {n k i j : Nat} (h : j < n + 1 - k) : ((rowS A n k i).map V.int)[j]? = some (V.int (Dt.mS A k i (k + j))) := by
  unfold rowS
  rw [List.getElem?_map, List.getElem?_map, List.getElem?_range h]; rfl
theorem tail_at {A : Nat → Nat → Int} {n k i j : Nat} (hk : k < n) (h : j < n - k) : (cutV ((rowS A n k i).map V.int) (some 1) none)[j]? = some (V.int (Dt.mS A k i (k + 1 + j))) := by
  rw [cut_tail, ← List.map_drop, row_tail hk, List.getElem?_map, List.getElem?_map, List.getElem?_range h]; rfl
theorem tail_len {A : Nat → Nat → Int} {n k i : Nat} (hk : k < n) : (cutV ((rowS A n k i).map V.int) (some 1) none).length = n - k := by
  rw [cut_tail, ← List.map_drop, row_tail hk, List.length_map, List.length_map, List.length_range]
section
variable {P : Program} {w : World} {K : PySem.W.Frag} {mg : Str → Option Value} {base : Heap}
theorem scSlv : FnScope ["rows", "left", "bottom", "at", "ahead", "other", "row", "own", "part"] ["rows"] (defScope sSlv) := ⟨rfl, rfl, rfl, by decide +kernel, rfl, by decide +kernel, by decide +kernel⟩
structure TgS (mg : Str → Option Value) : Prop where
  len : mg "len" = none
  range : mg "range" = none
  enumerate : mg "enumerate" = none
  zip : mg "zip" = none
  list : mg "list" = none
  sum : mg "sum" = none
theorem ok_slv {f : Addr} {fd : FuncData} (F : Fun K "solved" "solved" sSlv f fd) (T : TgS mg) : FnOk P w K mg base CX0 1 f fd ["rows"] spSlv := by
  refine F.ok scSlv (fun vs H Q E h => ?_) (fun cdv A outer s H vs Q E hr h => ?_)
  · obtain ⟨a, n, M, rfl, _⟩ := h
    rfl
  · obtain ⟨a, n, M, rfl, n8, Z, hM, bS, bD, k⟩ := h
    have hu1 := Nat.lt_trans (Nat.add_lt_add_left (show 1 < 64 by decide) _) hr.units
    refine ⟨_, (pss_cons (ps_set (i := 1) scSlv.nd rfl (Or.inl rfl) (pv 0))
      (pss_cons (ps_set (i := 2) scSlv.nd rfl (Or.inr rfl) pe_int)
      (pss_cons (ps_for PassesOwn.never rfl (pi_range1 (by rfl) T.range (pa_cons (pe_callB call_len_seq (by rfl) T.len PySem.boot_len (pa_cons (pv 0) pa_nil)) pa_nil)) (pg_name (i := 3) scSlv.nd rfl (Or.inr rfl)) (pss_cons (ps_set (i := 4) scSlv.nd rfl (Or.inr rfl) (pe_ix ix_list (pv 1) (pv 3) (fun _ _ => rfl)))
      (pss_cons (ps_setLc (i := 1) (own := [("other", 5), ("row", 6)]) (g := gTup K 2 (gCons (gName 5) (gCons (gName 6) gNil))) (tt := tYes) rfl scSlv.nd rfl (by rfl) (sw_true (by rfl) (by rfl) (by rfl) (by rfl)) (pi_enum (by rfl) T.enumerate (pa_cons (pv 1) pa_nil)) (blkOk_by (N := ["rows", "left", "bottom", "at", "ahead", "other", "row", "own", "part"]) (sc := defScope sSlv) (by decide +kernel)) (fun _ _ _ _ _ => (pg_tup (by rfl) (pgs_cons (pg_name (i := 5) scSlv.nd rfl (Or.inl rfl)) (pgs_cons (pg_name (i := 6) scSlv.nd rfl (Or.inr rfl)) pgs_nil)))) (fun _ _ _ _ _ => pts_nil) (fun _ _ _ _ _ => (pe_ifExp (pt_cmpR op_eq (pv 5) (pv 3) (nomark _)) (pe_slice (show SlR _ (rSlL K) from sl_list) (pv 6) (po_some pe_int) po_none) (pe_lc (own := [("own", 7), ("part", 8)]) (g := gTup K 2 (gCons (gName 7) (gCons (gName 8) gNil))) (tt := tYes) rfl scSlv.nd (show PI _ _ _ (iZip K _) from pi_zip (by rfl) T.zip (pa_cons (pe_slice (show SlR _ (rSlL K) from sl_list) (pv 6) (po_some pe_int) po_none) (pa_cons (pe_slice (show SlR _ (rSlL K) from sl_list) (pv 4) (po_some pe_int) po_none) pa_nil))) (blkOk_by (N := ["rows", "left", "bottom", "at", "ahead", "other", "row", "own", "part"]) (sc := ({ kind := PySem.ScopeKind.function, names := [(".0", PySem.NameKind.local), ("other", PySem.NameKind.local), ("row", PySem.NameKind.cell), ("zip", PySem.NameKind.globalImplicit), ("ahead", PySem.NameKind.cell), ("at", PySem.NameKind.cell), ("bottom", PySem.NameKind.cell)], isGenerator := false, isCoroutine := false, more := [] } : PySem.Scope)) (by decide +kernel)) (fun _ _ _ _ _ => (pg_tup (by rfl) (pgs_cons (pg_name (i := 7) scSlv.nd rfl (Or.inl rfl)) (pgs_cons (pg_name (i := 8) scSlv.nd rfl (Or.inl rfl)) pgs_nil)))) (fun _ _ _ _ _ => pts_nil) (fun _ _ _ _ _ => (pe_op op_fdivW (pe_op op_sub (pe_op (show OpR _ _ (rI CMulW fun i j => .int (i * j)) from op_mulW) (pe_ix (show IxR _ (rIxL K) from ix_list) (pv 4) pe_int (fun _ _ => rfl)) (pv 7)) (pe_op (show OpR _ _ (rI CMulW fun i j => .int (i * j)) from op_mulW) (pe_ix (show IxR _ (rIxL K) from ix_list) (pv 6) pe_int (fun _ _ => rfl)) (pv 8))) (pv 2)))))))
      (pss_one (ps_set (i := 2) scSlv.nd rfl (Or.inr rfl) (pe_ix ix_list (pv 4) pe_int (fun _ _ => rfl)))))))
      (pss_one (ps_ret (pe_tup (pa_cons (pe_lc (own := [("row", 6)]) (g := gName 6) (tt := tYes) rfl scSlv.nd (pi_list (pv 1)) (blkOk_by (N := ["rows", "left", "bottom", "at", "ahead", "other", "row", "own", "part"]) (sc := defScope sSlv) (by decide +kernel)) (fun _ _ _ _ _ => (pg_name (i := 6) scSlv.nd rfl (Or.inl rfl))) (fun _ _ _ _ _ => pts_nil) (fun _ _ _ _ _ => (pe_ix (show IxR _ (rIxL K) from ix_list) (pv 6) pe_int (fun _ _ => rfl)))) (pa_cons (pv 2) pa_nil)))))))), ?_⟩
    obtain ⟨qs, h1, h2, h3⟩ := hM.ex
    have lq : (qs.map V.ref).length = n := by rw [List.length_map, h2]
    refine ⟨_, rfl, _, rfl, a, _, rfl, .inl (SqL.of h1), ?_⟩
    rw [lq]
    refine ⟨n, rfl, by omega, by omega, for_it (walk_range (lo := 0) (n := n)) (fun k σ Ho => Same H Ho ∧ ∃ (l : Addr) (y3 y4 : Option V), σ = [some (.ref a), some (.ref l), some (.int (Dt.md M k)), y3, y4, none, none, none, none] ∧ MatL Ho l n (rowS M n k)) ?_ ?_ ?_ ?_⟩
    · exact ⟨Same.refl _, a, _, _, rfl, ⟨⟨qs, h1, h2, fun i q g => by rw [h3 i q g]; unfold rowS; simp only [Nat.zero_add, Dt.mS_zero]; rfl⟩⟩⟩
    · exact fun _ _ _ _ _ => trivial
    · rintro i x σ Ho Ho' hi ⟨sa, l, y3, y4, rfl, hl⟩ ⟨rfl, rfl⟩
      obtain ⟨ps, g1, g2, g3⟩ := hl.ex
      obtain ⟨cb, dp, zi⟩ := Z.all i (Nat.le_of_lt hi)
      have pv := zi.piv hi
      obtain ⟨q, hq⟩ : ∃ q, ps[i]? = some q := ⟨ps[i], List.getElem?_eq_getElem (by omega)⟩
      have x0 : V.int (0 + (i : Int)) = V.int (i : Nat) := by rw [Int.zero_add]
      dsimp only
      rw [x0]
      have atq : atI (ps.map V.ref) (i : Int) = some (.ref q) := atI_nat (by rw [List.getElem?_map, hq]; rfl)
      have hrk := g3 i q hq
      refine ⟨_, rfl, _, rfl, l, _, _, _, rfl, rfl, SqL.of g1, atq, ?_⟩
      refine ⟨_, rfl, l, _, rfl, SqL.of g1, fun D nD => ?_⟩
      refine lc_made (walk_enum (K := K) (a := l) (xs := ps.map V.ref)) (rowS M n (i + 1)) nD (by rw [List.length_map, sizeLine_eq]; omega) (fun Ha s1 => SqL.of (s1 _ _ g1)) (fun j x Ha Hb hj s1 yy Q2 R q2 => ?_) (fun Ha s1 hm => ?_)
      · obtain ⟨T1, v1, v2, rfl, nT, rfl, e1, e2⟩ := yy
        obtain rfl := Option.some.inj e1
        rw [List.length_map] at hj
        obtain ⟨qj, hqj⟩ : ∃ q, ps[j]? = some q := ⟨ps[j], List.getElem?_eq_getElem hj⟩
        replace e2 : (ps.map V.ref)[j]? = some v2 := e2
        rw [List.getElem?_map, hqj] at e2
        obtain rfl := Option.some.inj e2
        have hrj := s1 _ _ (g3 j qj hqj)
        have hrk2 := s1 _ _ hrk
        have sT : Same Ha (upd Ha T1 (.tup [.int (j : Nat), .ref qj])) := same_upd nT
        refine ⟨T1, _, rfl, SqT.of upd_same, rfl, _, _, rfl, _, _, rfl, rfl, rfl, tyes ?_⟩
        refine ⟨_, rfl, _, rfl, rfl, ?_⟩
        by_cases c : j = i
        · subst c
          have dt : decide (V.int (j : Int) = V.int (j : Int)) = true := by simp
          refine ⟨_, rfl, ?_⟩
          dsimp only
          rw [dt, if_pos rfl]
          refine ⟨_, rfl, _, rfl, qj, _, rfl, SqL.of (sT _ _ hrj), fun p np => ?_⟩
          refine q2 p _ (sT.trans (same_upd np)) (sT.free np) ?_
          rw [upd_same, cut_tail, ← List.map_drop, row_tail hi]
          unfold rowS
          rw [show n + 1 - (j + 1) = n - j by omega]
          simp only [Dt.mS_pivot]
        · have dt : decide (V.int (j : Int) = V.int (i : Int)) = false := by
            rw [decide_eq_false_iff_not]
            intro z
            injection z with z
            omega
          refine ⟨_, rfl, ?_⟩
          dsimp only
          rw [dt, if_neg (by decide)]
          refine ⟨_, rfl, _, rfl, qj, _, rfl, SqL.of (sT _ _ hrj), fun pA nA => ?_⟩
          have sA := same_upd (o := .lst (cutV ((rowS M n i j).map V.int) (some 1) none)) nA
          refine ⟨_, rfl, _, rfl, q, _, rfl, SqL.of (sA _ _ (sT _ _ hrk2)), fun pB nB => ?_⟩
          have sB := same_upd (o := .lst (cutV ((rowS M n i i).map V.int) (some 1) none)) nB
          have hA := sB _ _ (upd_same (H := upd Ha T1 (.tup [.int (j : Nat), .ref qj])) (a := pA) (o := .lst (cutV ((rowS M n i j).map V.int) (some 1) none)))
          refine ⟨pA, pB, _, _, rfl, SqL.of hA, SqL.of upd_same, fun D2 nD2 => ?_⟩
          refine lc_gen (walk_zip (K := K) (n := n - i) (by rw [tail_len hi, tail_len hi]; omega)) (fun _ => true) (fun t => .int (Dt.mS M (i + 1) j (i + 1 + t))) nD2 (by rw [sizeLine_eq]; omega) (fun Hc sc => ⟨SqL.of (sc _ _ hA), SqL.of (sc _ _ upd_same)⟩) (fun t x Hc Hd ht sc yy Q3 R3 q3 r3 => ?_) fun Hc sc hD => ?_
          · obtain ⟨T2, v1, v2, rfl, nT2, rfl, e1, e2⟩ := yy
            replace e1 : (cutV ((rowS M n i j).map V.int) (some 1) none)[t]? = some v1 := e1
            replace e2 : (cutV ((rowS M n i i).map V.int) (some 1) none)[t]? = some v2 := e2
            rw [tail_at hi ht] at e1 e2
            obtain rfl := Option.some.inj e1
            obtain rfl := Option.some.inj e2
            have sU := same_upd (o := .tup [.int (Dt.mS M i j (i + 1 + t)), .int (Dt.mS M i i (i + 1 + t))]) nT2
            refine ⟨T2, _, rfl, SqT.of upd_same, rfl, _, _, rfl, _, _, rfl, rfl, rfl, tyes ?_⟩
            have up := fun a o (e : Ha a = some o) => sU _ _ (sc _ _ (sB _ _ (sA _ _ (sT a o e))))
            have a0 : ∀ j, atI ((rowS M n i j).map V.int) 0 = some (V.int (Dt.mS M i j i)) := fun j => atI_nat (i := 0) (row_at (by omega))
            have dv : (Dt.mS M i i i * Dt.mS M i j (i + 1 + t) - Dt.mS M i j i * Dt.mS M i i (i + 1 + t)) / Dt.md M i = Dt.mS M (i + 1) j (i + 1 + t) := by
              have := Dt.bar_step cb (Int.ne_of_gt pv) c (i + 1 + t)
              unfold Dt.mT at this
              rw [← this]
              exact Int.mul_ediv_cancel_left _ (Int.ne_of_gt dp)
            refine ⟨_, rfl, q, _, _, _, rfl, rfl, SqL.of (up _ _ hrk2), a0 i, _, rfl, _, _, rfl, rfl, wide_mul (bS i _ _ (Nat.le_of_lt hi)) (bS i _ _ (Nat.le_of_lt hi)) (by decide) (by decide) (by decide), ?_⟩
            refine ⟨_, rfl, qj, _, _, _, rfl, rfl, SqL.of (up _ _ hrj), a0 j, _, rfl, _, _, rfl, rfl, wide_mul (bS i _ _ (Nat.le_of_lt hi)) (bS i _ _ (Nat.le_of_lt hi)) (by decide) (by decide) (by decide), ?_⟩
            refine ⟨_, _, rfl, rfl, _, rfl, _, _, rfl, rfl, wide_div dp (bD i (Nat.le_of_lt hi)) (by decide) (by decide), ?_⟩
            dsimp only
            rw [dv]
            exact q3 rfl _ sU
          · have sW : Same Ha Hc := ((sT.trans sA).trans sB).trans sc
            refine q2 D2 Hc sW (((sT.trans sA).trans sB).free nD2) ?_
            rw [hD, range_all _ (fun _ => true)]
            unfold rowS
            rw [show n + 1 - (i + 1) = n - i by omega, List.map_map]
            rfl
      · have sH := sa.trans s1
        refine ⟨_, rfl, q, _, _, _, rfl, rfl, SqL.of (s1 _ _ hrk), atI_nat (i := 0) (row_at (by omega)), ?_⟩
        rw [List.length_map, g2] at hm
        refine ⟨sH, D, some (.int (i : Nat)), some (.ref q), ?_, hm⟩
        rw [Nat.add_zero, ← Dt.md_succ]
        rfl
    · rintro σ Ho ⟨sa, l, y3, y4, rfl, hl⟩
      obtain ⟨ps, g1, g2, g3⟩ := hl.ex
      refine ⟨_, rfl, l, rfl, ⟨_, SqL.of g1⟩, fun D nD => ?_⟩
      refine lc_gen (walk_list (K := K) (a := l) (xs := ps.map V.ref)) (fun _ => true) (fun t => .int (Dt.mS M n t n)) nD (by rw [List.length_map, sizeLine_eq]; omega) (fun Ha s1 => SqL.of (s1 _ _ g1)) (fun j x Ha Hb hj s1 yy Q2 R q2 r2 => ?_) fun Ha s1 hD => ?_
      · obtain ⟨rfl, hx⟩ := yy
        rw [List.length_map] at hj
        obtain ⟨qj, hqj⟩ : ∃ q, ps[j]? = some q := ⟨ps[j], List.getElem?_eq_getElem hj⟩
        rw [List.getElem?_map, hqj] at hx
        obtain rfl := Option.some.inj hx
        refine ⟨rfl, tyes ?_⟩
        exact ⟨_, rfl, qj, _, _, _, rfl, rfl, SqL.of (s1 _ _ (g3 j qj hqj)), atI_nat (i := 0) (row_at (by omega)), q2 rfl _ (Same.refl _)⟩
      · refine ⟨_, rfl, ?_⟩
        refine ⟨by show 2 ≤ sizeLine; rw [sizeLine_eq]; decide, fun T nT => k T D _ (sa.trans (s1.trans (same_upd nT))) upd_same (same_upd nT _ _ ?_)⟩
        rw [hD, range_all _ (fun _ => true), List.length_map, g2, List.map_map]
        rfl
end
end My

set_option linter.all false
namespace My
open PySem PySem.Spec PyProof.Rows L2
/-! ### the lines of a book's rows, solved -/
theorem get_list {X : Cx} : PGet X (rIxL X.K) := by
  intro pins s σ H o i ov iv Q I ro ri h
  obtain ⟨p, xs, k, z, rfl, rfl, hq, he, q⟩ := h
  cases ro
  obtain ⟨t, rfl⟩ := ri
  obtain ⟨its, r, pl, hz⟩ := I.list hq
  obtain ⟨j, h1, h2, h3, h4, h5⟩ := atI_get he
  obtain ⟨w, ew, rw'⟩ := r.get h2
  have hl := r.length
  have hn := line63
  have fin : EP X pins σ Q w s := ⟨z, H, I, rw', q⟩
  by_cases h0 : 0 ≤ k
  · have hj : k.toNat = j := by
      rw [seqIndex_of h0 h5] at h1
      exact Option.some.inj h1
    exact wpAny_getItem_list pl.isList h0 (by omega) (by rw [hj]; simpa using ew) fin
  · have hj : (k + (its.toArray.size : Int)).toNat = j := by
      rw [seqIndex_neg (by omega) h4] at h1
      rw [List.size_toArray, ← hl]
      exact Option.some.inj h1
    exact wpAny_getItem_list_neg pl.isList (by omega) (by rw [List.size_toArray] <;> omega) (by omega) (by rw [hj]; simpa using ew) fin
abbrev Tri := Int × Nat × Int
def partS (es : List Tri) (j : Nat) : Int := ((es.filter fun e => e.2.1 == j).map fun e => e.2.2).sum
def lineS (t : Int) (i n : Nat) (es : List Tri) : List Int := (List.range n).map fun j => (if i = j then t else 0) - partS es j
def sysA (t : Int) (R : List (List Tri)) (S : List Int) (i j : Nat) : Int := if j < R.length then (if i = j then t else 0) - partS (R.getD i []) j else if j = R.length then S.getD i 0 else 0
structure TriL (H : Hp) (a : Addr) (R : List (List Tri)) : Prop where
  ex : ∃ qs : List Addr, H a = some (.lst (qs.map V.ref)) ∧ qs.length = R.length ∧ ∀ (i : Nat) (q : Addr) (es : List Tri), qs[i]? = some q → R[i]? = some es → ∃ ts : List Addr, H q = some (.lst (ts.map V.ref)) ∧ ts.length = es.length ∧ ∀ (j : Nat) (t : Addr) (e : Tri), ts[j]? = some t → es[j]? = some e → H t = some (.tup [.int e.1, .int (e.2.1 : Nat), .int e.2.2])
  num : ∀ es ∈ R, ∀ e ∈ es, e.2.1 < R.length
theorem TriL.same {H H' : Hp} {a : Addr} {R : List (List Tri)} (h : TriL H a R) (s : Same H H') : TriL H' a R := by
  obtain ⟨qs, h1, h2, h3⟩ := h.ex
  refine ⟨⟨qs, s _ _ h1, h2, fun i q es g g2 => ?_⟩, h.num⟩
  obtain ⟨ts, k1, k2, k3⟩ := h3 i q es g g2
  exact ⟨ts, s _ _ k1, k2, fun j t e z1 z2 => s _ _ (k3 j t e z1 z2)⟩
def spSby : Sp := fun vs H Q _ => ∃ (t : Int) (a b : Addr) (R : List (List Tri)) (S : List Int), vs = [.int t, .ref a, .ref b] ∧ R.length ≤ 8 ∧ TriL H a R ∧ H b = some (.lst (S.map V.int)) ∧ S.length = R.length ∧ Dt.Zm R.length 0 (sysA t R S) ∧ (∀ k i j, k ≤ R.length → (Dt.mS (sysA t R S) k i j).natAbs < 2 ^ 8000) ∧ (∀ k, k ≤ R.length → (Dt.md (sysA t R S) k).natAbs < 2 ^ 8000) ∧
  ∀ (T L : Addr) (H' : Hp), Same H H' → H' T = some (.tup [.ref L, .int (Dt.md (sysA t R S) R.length)]) → H' L = some (.lst (((List.range R.length).map fun t' => Dt.mS (sysA t R S) R.length t' R.length).map V.int)) → Q (.ref T) H'
theorem partS_snoc (es : List Tri) (e : Tri) (j : Nat) : partS (es ++ [e]) j = partS es j + (if e.2.1 = j then e.2.2 else 0) := by
  unfold partS
  rw [List.filter_append, List.map_append, List.sum_append]
  congr 1
  by_cases c : e.2.1 = j
  · rw [if_pos c, List.filter_cons, if_pos (by simpa using c)]; simp
  · rw [if_neg c, List.filter_cons, if_neg (by simpa using c)]; simp
theorem line_len (t : Int) (i n : Nat) (es : List Tri) : (lineS t i n es).length = n := by unfold lineS; rw [List.length_map, List.length_range]
theorem line_at {t : Int} {i n j : Nat} {es : List Tri} (h : j < n) : (lineS t i n es)[j]? = some ((if i = j then t else 0) - partS es j) := by
  unfold lineS
  rw [List.getElem?_map, List.getElem?_range h]; rfl
theorem line_snoc {t : Int} {i n : Nat} {es : List Tri} {e : Tri} : (lineS t i n es).set e.2.1 ((if i = e.2.1 then t else 0) - partS es e.2.1 - e.2.2) = lineS t i n (es ++ [e]) := by
  refine List.ext_getElem? fun j => ?_
  by_cases c : j < n
  · rw [line_at c, partS_snoc]
    by_cases d : e.2.1 = j
    · subst d
      rw [List.getElem?_set_self (by rw [line_len]; exact c), if_pos rfl]
      congr 1; omega
    · rw [List.getElem?_set_ne d, line_at c, if_neg d]
      congr 1; omega
  · rw [List.getElem?_eq_none (by rw [List.length_set, line_len]; omega), List.getElem?_eq_none (by rw [line_len]; omega)]
theorem line_nil {t : Int} {i n : Nat} (h : i < n) : (List.replicate n (0 : Int)).set i t = lineS t i n [] := by
  refine List.ext_getElem? fun j => ?_
  by_cases c : j < n
  · rw [line_at c]
    by_cases d : i = j
    · subst d
      rw [List.getElem?_set_self (by rw [List.length_replicate]; exact c), if_pos rfl]
      simp [partS]
    · rw [List.getElem?_set_ne d, if_neg d, List.getElem?_replicate, if_pos c]
      simp [partS]
  · rw [List.getElem?_eq_none (by rw [List.length_set, List.length_replicate]; omega), List.getElem?_eq_none (by rw [line_len]; omega)]
theorem line_row {t : Int} {R : List (List Tri)} {S : List Int} {i : Nat} {es : List Tri} {s : Int} (he : R[i]? = some es) (hs : S[i]? = some s) : lineS t i R.length es ++ [s] = (List.range (R.length + 1)).map (sysA t R S i) := by
  rw [List.range_succ, List.map_append]
  congr 1
  · unfold lineS
    refine List.map_congr_left fun j hj => ?_
    unfold sysA
    rw [if_pos (List.mem_range.mp hj), List.getD_eq_getElem?_getD, he]; rfl
  · show [s] = [sysA t R S i R.length]
    unfold sysA
    rw [if_neg (Nat.lt_irrefl _), if_pos rfl, List.getD_eq_getElem?_getD, hs]; rfl
section
variable {P : Program} {w : World} {K : PySem.W.Frag} {mg : Str → Option Value} {base : Heap}
end
end My

set_option linter.all false
namespace My
open PySem PySem.Spec PyProof.Rows L2
/-! ### means and squares of the rows -/
def meanS (es : List Tri) : Int := (es.map fun e => e.2.2 * e.1).sum
def sqS (tops : List Int) (bottom : Int) (es : List Tri) : Int := (es.map fun e => e.2.2 * (e.1 * e.1 * bottom + 2 * e.1 * tops.getD e.2.1 0)).sum
def SmallR (R : List (List Tri)) : Prop := R.length ≤ 8 ∧ ∀ es ∈ R, es.length ≤ 100 ∧ ∀ e ∈ es, e.1.natAbs < 2 ^ 64 ∧ e.2.2.natAbs < 2 ^ 8000
def spMns : Sp := fun vs H Q _ => ∃ (t W : Int) (a : Addr) (R : List (List Tri)), vs = [.int t, .int W, .ref a] ∧ SmallR R ∧ t.natAbs < 2 ^ 64 ∧ W.natAbs < 2 ^ 8000 ∧ TriL H a R ∧ Dt.Zm R.length 0 (sysA (t * W) R (R.map meanS)) ∧ (∀ k i j, k ≤ R.length → (Dt.mS (sysA (t * W) R (R.map meanS)) k i j).natAbs < 2 ^ 8000) ∧ (∀ k, k ≤ R.length → (Dt.md (sysA (t * W) R (R.map meanS)) k).natAbs < 2 ^ 8000) ∧
  ∀ (T L : Addr) (H' : Hp), Same H H' → H' T = some (.tup [.ref L, .int (Dt.md (sysA (t * W) R (R.map meanS)) R.length)]) → H' L = some (.lst (((List.range R.length).map fun t' => Dt.mS (sysA (t * W) R (R.map meanS)) R.length t' R.length).map V.int)) → Q (.ref T) H'
def spSqs : Sp := fun vs H Q _ => ∃ (t W : Int) (a b : Addr) (bot : Int) (R : List (List Tri)) (tops : List Int), vs = [.int t, .int W, .ref a, .ref b, .int bot] ∧ SmallR R ∧ t.natAbs < 2 ^ 64 ∧ W.natAbs < 2 ^ 8000 ∧ TriL H a R ∧ H b = some (.lst (tops.map V.int)) ∧ tops.length = R.length ∧ (∀ x ∈ tops, x.natAbs < 2 ^ 8000) ∧ bot.natAbs < 2 ^ 8000 ∧ Dt.Zm R.length 0 (sysA (t * t * W) R (R.map (sqS tops bot))) ∧ (∀ k i j, k ≤ R.length → (Dt.mS (sysA (t * t * W) R (R.map (sqS tops bot))) k i j).natAbs < 2 ^ 8000) ∧ (∀ k, k ≤ R.length → (Dt.md (sysA (t * t * W) R (R.map (sqS tops bot))) k).natAbs < 2 ^ 8000) ∧
  ∀ (T L : Addr) (H' : Hp), Same H H' → H' T = some (.tup [.ref L, .int (Dt.md (sysA (t * t * W) R (R.map (sqS tops bot))) R.length * bot)]) → H' L = some (.lst (((List.range R.length).map fun t' => Dt.mS (sysA (t * t * W) R (R.map (sqS tops bot))) R.length t' R.length).map V.int)) → Q (.ref T) H'
theorem range_getD {α β : Type} (g : α → β) (d : α) (l : List α) : ((List.range l.length).map fun i => g (l.getD i d)) = l.map g := by
  refine List.ext_getElem? fun i => ?_
  rw [List.getElem?_map, List.getElem?_map]
  by_cases c : i < l.length
  · rw [List.getElem?_range c, List.getElem?_eq_getElem c]
    show some (g (l.getD i d)) = _
    rw [List.getD_eq_getElem?_getD, List.getElem?_eq_getElem c]; rfl
  · rw [List.getElem?_eq_none (by rw [List.length_range]; omega), List.getElem?_eq_none (by omega)]; rfl
theorem getD_at {α : Type} {l : List α} {i : Nat} {x d : α} (h : l[i]? = some x) : l.getD i d = x := by rw [List.getD_eq_getElem?_getD, h]; rfl
theorem at_ref {qs : List Addr} {i : Nat} {x : V} (h : (qs.map V.ref)[i]? = some x) : ∃ q, qs[i]? = some q ∧ x = .ref q := by
  rw [List.getElem?_map] at h
  cases c : qs[i]? with
  | none => rw [c] at h; cases h
  | some q => rw [c] at h; exact ⟨q, rfl, (Option.some.inj h).symm⟩
theorem nat_add {x y : Int} {a : Nat} (hx : x.natAbs < 2 ^ a) (hy : y.natAbs < 2 ^ a) : (x + y).natAbs < 2 ^ (a + 1) := by
  rw [Nat.pow_succ]
  have := Int.natAbs_add_le x y
  omega
theorem nat_up {x : Int} {a b : Nat} (hx : x.natAbs < 2 ^ a) (h : a ≤ b) : x.natAbs < 2 ^ b := Nat.lt_of_lt_of_le hx (Nat.pow_le_pow_right (by decide) h)
theorem big64 {x : Int} (h : x.natAbs < 2 ^ 64) : x.natAbs < 2 ^ 8000 := Nat.lt_of_lt_of_le h (Nat.pow_le_pow_right (by decide) (by decide))
section
variable {P : Program} {w : World} {K : PySem.W.Frag} {mg : Str → Option Value} {base : Heap}
end
end My

set_option linter.all false
namespace My
open PySem PySem.Spec PyProof.Rows L2
/-! ### enumerate of a dict that stands still -/
section
variable {prog : Program} {w : World} {A : Around} {E : Value → Shared → Prop} {s : Shared}
/-- a turn of a dict's keys, by next: a key, or the end -/
theorem nextOf_key {it d : Addr} {i n ep : Nat} {od : Obj} {es : Array DictEntry} {Q : Value → Shared → Prop} (hh : A.handled = none) (hit : s.heap.IsKeyIter it d i n ep) (hod : s.heap.get? d = some od) (hdd : od.data = .dict es ep) (hsz : es.size = n)
    (hi : ∀ en h', es[i]? = some en → h'.IsKeyIter it d (i + 1) n ep → Heap.SameBut it s.heap h' → Q en.key { s with heap := h' })
    (he : n ≤ i → ∀ h' e, Heap.ExtBut it s.heap h' → (∃ o, h'.get? e = some o ∧ o.cls = .type "StopIteration") → E (.ref e) { s with heap := h' }) : wpAny (model prog w) A (Builtin.SmallTypes.nextOf (.ref it)) Q E s := by
  obtain ⟨oi, g1, g2, g3⟩ := id hit
  unfold Builtin.SmallTypes.nextOf
  refine wpAny_bind (wpAny_callSpecial?_slot (name := Str.ofString "__next__") hit.typeIs F.slot_dict_keyiterator_next
    (wpAny_call_entry F.slot_dict_keyiterator_next hit.typeIs F.entry_dict_keyiterator_next ?_ (F.args_dict_keyiterator_next_1 _)))
  refine wpAny_bind (wpAny_pure (wpAny_bind (wpAny_bind ?_)))
  first | refine wpAny_bind (wpAny_typeNameOfWhole_keyiter hit.typeIs (wpAny_pure ?_)) | refine wpAny_bind (wpAny_typeNameOf_keyiter hit.typeIs (wpAny_pure ?_))
  refine wpAny_bind (wpAny_fieldsOf g1 g3 ?_)
  have nown : Builtin.Dict_items.ownsTuple "dict_keyiterator" = false := by decide
  simp only [nown, Bool.false_eq_true, if_false]
  show wpAny _ _ (if (Value.ref d == Value.none) = true then _ else _) _ _ s
  rw [if_neg (show ¬ ((Value.ref d == Value.none) = true) from Bool.false_ne_true)]
  refine wpAny_bind (wpAny_pure (wpAny_bind (wpAny_dictEntries hod hdd ?_)))
  rw [if_neg (by rw [hsz]; simp)]
  refine wpAny_bind (wpAny_pure (wpAny_bind (wpAny_dictEpoch hod hdd ?_)))
  rw [if_neg (by simp)]
  refine wpAny_pure ?_
  by_cases hlt : i < es.size
  · simp only [show ¬ ((i : Int) < 0) from by omega, if_false, Int.toNat_natCast, Array.getElem?_eq_getElem hlt]
    refine wpAny_bind ?_
    first | refine wpAny_bind (wpAny_typeNameOfWhole_keyiter hit.typeIs (wpAny_pure ?_)) | refine wpAny_bind (wpAny_typeNameOf_keyiter hit.typeIs (wpAny_pure ?_))
    refine wpAny_bind (wpAny_isOneOf_keyiter hit.typeIs ?_)
    show wpAny _ _ (setField (.ref it) 1 (rawInt ((i : Int) + 1)) >>= _) _ _ s
    refine wpAny_bind (wpAny_setField g1 g3 (by simp) ?_)
    have nx : (s.heap.update it (Obj.mapFields (·.setIfInBounds 1 (rawInt ((i : Int) + 1))))).IsKeyIter it d (i + 1) n ep :=
      ⟨_, Heap.get?_update_self _ g1 (Obj.isFreed_of_fields (Obj.data_mapFields g3 _)), (Obj.cls_mapFields ..).trans g2, by rw [Obj.data_mapFields g3]; simp [rawInt]⟩
    refine wpAny_bind (wpAny_holding (wpAny_bind (wpAny_isOneOf_keyiter (s := { s with heap := s.heap.update it (Obj.mapFields (·.setIfInBounds 1 (rawInt ((i : Int) + 1)))) }) nx.typeIs ?_)))
    show wpAny _ _ (pure es[i].key) _ _ _
    exact wpAny_pure (wpAny_pure ⟨_, rfl, wpAny_pure (hi _ _ (Array.getElem?_eq_getElem hlt) nx (Heap.SameBut.update ..))⟩)
  · simp only [show ¬ ((i : Int) < 0) from by omega, if_false, Int.toNat_natCast, Array.getElem?_eq_none (Nat.le_of_not_lt hlt)]
    refine wpAny_bind ?_
    first | refine wpAny_bind (wpAny_typeNameOfWhole_keyiter hit.typeIs (wpAny_pure ?_)) | refine wpAny_bind (wpAny_typeNameOf_keyiter hit.typeIs (wpAny_pure ?_))
    show wpAny _ _ (setField (.ref it) 0 .none >>= _) _ _ s
    refine wpAny_bind (wpAny_setField g1 g3 (by simp) ?_)
    show wpAny _ _ (newExc (.type "StopIteration") [] >>= _) _ _ _
    refine wpAny_bind ?_
    simp only [newExc, newTuple]
    refine wpAny_bind (wpAny_newObj_type ?_ (by size_fits))
    refine wpAny_bind (m := firstArgMember _ _) (wpAny_of_eq (a := Value.none) (by first | rfl | (simp only [firstArgMember]; rfl)) ?_)
    refine wpAny_newObj_type ?_ (by size_fits)
    simp only [raiseNew]
    refine wpAny_bind (wpAny_handled ?_)
    first | rw [show A.in1.handled = none from hh] | rw [hh]
    refine wpAny_bind (wpAny_pure (wpAny_throw ?_))
    exact he (by omega) _ _ (((Heap.SameBut.update ..).extBut.push _).push _) ⟨_, Heap.get?_push_size _ rfl, rfl⟩
theorem draws_keys {it d : Addr} {n ep : Nat} {od : Obj} {es : Array DictEntry} (hh : A.handled = none) (hdd : od.data = .dict es ep) (hsz : es.size = n) (ne : d ≠ it) :
    Draws prog w A it [it, d] n (fun i x => ∃ en, es[i]? = some en ∧ x = en.key) (fun i h => h.IsKeyIter it d i n ep ∧ h.get? d = some od) where
  live := fun i h st => by obtain ⟨⟨o, ho, _⟩, _⟩ := st; exact ⟨o, ho⟩
  frame := fun i h h' st k => ⟨st.1.at fun o e => k it (by simp) o e, k d (by simp) _ st.2⟩
  item := fun i s Q E hi st hQ => by
    refine nextOf_key hh st.1 st.2 hdd hsz (fun en h' hen st' sb => ?_) fun z => absurd hi (by omega)
    exact hQ en.key h' s.toks ⟨en, hen, rfl⟩ ⟨st', (sb.2 d ne).trans st.2⟩ sb
  done := fun s Q E st hE => nextOf_key hh st.1 st.2 hdd hsz (fun en h' hen _ _ => by rw [Array.getElem?_eq_none (by omega)] at hen; cases hen) fun _ => hE
theorem draws_end {it d : Addr} {m n ep : Nat} {od : Obj} {es : Array DictEntry} (hh : A.handled = none) (hdd : od.data = .dict es ep) (hsz : es.size = n) (hge : n ≤ m) :
    Draws prog w A it [it, d] m (fun _ _ => False) (fun i h => i = m ∧ h.IsKeyIter it d m n ep ∧ h.get? d = some od) where
  live := fun i h st => by obtain ⟨_, ⟨o, ho, _⟩, _⟩ := st; exact ⟨o, ho⟩
  frame := fun i h h' st k => ⟨st.1, st.2.1.at fun o e => k it (by simp) o e, k d (by simp) _ st.2.2⟩
  item := fun i s Q E hi st hQ => absurd hi (by have := st.1; omega)
  done := fun s Q E st hE => nextOf_key hh st.2.1 st.2.2 hdd hsz (fun en h' hen _ _ => by rw [Array.getElem?_eq_none (by omega)] at hen; cases hen) fun _ => hE
set_option maxHeartbeats 1000000 in
theorem meets_enum_dict {d : Addr} {od : Obj} {es : Array DictEntry} {ep : Nat} (hd : (d == sysModules) = false) (hc : od.ExactDict) (hdat : od.data = .dict es ep) :
    Meets (Builtin.«enumerate.__new__» ⟨[.type "enumerate", .ref d], []⟩) (fun _ R s => s.heap.get? d = some od ∧
      R (.ok (.ret (.ref (s.heap.push { cls := .type "dict_keyiterator", data := .fields #[.ref d, .int 0 0, .int es.size 0, .int ep 0] }).objs.size)))
        { s with heap := (s.heap.push { cls := .type "dict_keyiterator", data := .fields #[.ref d, .int 0 0, .int es.size 0, .int ep 0] }).push { cls := .type "enumerate", data := .fields #[.none, .bool false, .ref s.heap.objs.size, rawInt 0, .none, .none] } }) :=
  .of_wp fun prog w A R s h => by
    obtain ⟨hp, g, dd, tk, os⟩ := s; obtain ⟨h1, h⟩ := h
    have hsub := sub_enumerate
    have q1 : ∀ {A' : Around} {E : Value → Shared → Prop} {Q : Value → Shared → Prop}, Q (.ref hp.objs.size) ⟨hp.push { cls := .type "dict_keyiterator", data := .fields #[.ref d, .int 0 0, .int es.size 0, .int ep 0] }, g, dd, tk, os⟩ → wpAny (model prog w) A' (pyIter (.ref d)) Q E ⟨hp, g, dd, tk, os⟩ :=
      fun q => iter_keys (s := ⟨hp, g, dd, tk, os⟩) hd h1 hc hdat q
    wp_walk using q1
    refine wpAny_stack_any fun st => wpAny_pure ?_
    split
    · rename_i c _ _ _ _ _
      cases (c == Value.type "enumerate")
      · wp_walk using q1
        exact ⟨_, rfl, h⟩
      · wp_walk using q1
        exact ⟨_, rfl, h⟩
    · wp_walk using q1
      exact ⟨_, rfl, h⟩
theorem call_enum_dict {d : Addr} {od : Obj} {es : Array DictEntry} {ep : Nat} {Q : Value → Shared → Prop} (hd : (d == sysModules) = false) (ho : s.heap.get? d = some od) (hc : od.ExactDict) (hdat : od.data = .dict es ep)
    (h : ∀ h', IsEnum h' (s.heap.objs.size + 1) s.heap.objs.size 0 .none → h'.IsKeyIter s.heap.objs.size d 0 es.size ep → h'.objs.size = s.heap.objs.size + 2 →
      (∀ b o, s.heap.get? b = some o → h'.get? b = some o) → Q (.ref (s.heap.objs.size + 1)) { s with heap := h' }) :
    wpAny (model prog w) A (call (.type "enumerate") [.ref d]) Q E s := by
  refine callType_new F.called_enumerate (by decide) (F.typeCall_enumerate_1 _) (F.newCall_enumerate_1 _) (fun obj => F.args_object_init_2 obj _) F.entry_enumerate_new
    (meets_enum_dict hd hc hdat) ⟨ho, ?_⟩
  generalize hoi : ({ cls := .type "dict_keyiterator", data := .fields #[.ref d, .int 0 0, .int es.size 0, .int ep 0] } : Obj) = oi
  have hz : (s.heap.push oi).objs.size = s.heap.objs.size + 1 := Heap.size_push ..
  show _ ∧ _
  rw [hz]
  have fo : oi.isFreed = false := by rw [← hoi]; rfl
  have he : IsEnum ((s.heap.push oi).push { cls := .type "enumerate", data := .fields #[.none, .bool false, .ref s.heap.objs.size, rawInt 0, .none, .none] }) (s.heap.objs.size + 1) s.heap.objs.size 0 .none := by
    have := Heap.get?_push_size (s.heap.push oi) (o := { cls := .type "enumerate", data := .fields #[.none, .bool false, .ref s.heap.objs.size, rawInt 0, .none, .none] }) rfl
    rw [hz] at this; exact this
  refine ⟨⟨_, he, rfl⟩, h _ he ⟨oi, Heap.get?_push_of_some _ (Heap.get?_push_size _ fo), by rw [← hoi], by rw [← hoi]; rfl⟩ (by rw [Heap.size_push, hz]) fun b o x => Heap.get?_push_of_some _ (Heap.get?_push_of_some _ x)⟩
end
def IteF (w : World) (d : Addr) (od : Obj) (kvs : List Kvv) : It :=
  ⟨fun i H => (∃ u, H d = some (.frz od u)) ∧ DF w H d kvs ∧ i < kvs.length, fun i H x H' => ∃ T k kv v, x = .ref T ∧ H T = none ∧ H' = upd H T (.tup [.int (i : Nat), kv]) ∧ kvs[i]? = some (k, kv, v), fun i H => (∃ u, H d = some (.frz od u)) ∧ DF w H d kvs ∧ kvs.length ≤ i⟩
section
variable {P : Program} {w : World} {K : PySem.W.Frag} {elts : List Expr} {kk : Nat} {tpos : Pos} {d : Addr} {o : Obj} {es : Array DictEntry} {ep : Nat}
theorem turn_enumF {kvs : List Kvv} (e it : Addr) (hod : o.data = .dict es ep) : Turn P w K (.Tuple elts kk tpos) (IteF w d o kvs) [e, it] e (fun i h => (∃ old, IsEnum h e it ((i : Nat) : Int) old) ∧ h.IsKeyIter it d i kvs.length ep ∧ e ≠ it) where
  mem := by simp
  obj := fun i h st b hb => by
    obtain ⟨⟨old, he⟩, ⟨oi, ho, hc, hd⟩, _⟩ := st
    rcases (show b = e ∨ b = it by simpa using hb) with z | z
    · rw [z]; exact ⟨_, he, fun v q => nomatch q⟩
    · rw [z]; exact ⟨oi, ho, fun v q => by rw [hd] at q; cases q⟩
  keep := fun i h h' st k => let ⟨⟨old, he⟩, hi, hne⟩ := st; ⟨⟨old, k e (by simp) _ he⟩, hi.at fun o q => k it (by simp) o q, hne⟩
  item := by
    intro X hP hw hK hc i pins s σ H E I hf st hg
    subst hP hw hK
    obtain ⟨⟨old, he⟩, hit, hne⟩ := st
    obtain ⟨h1, h2, hi⟩ := hg
    obtain ⟨hgd, hx, hm, hE⟩ := df_at I h1 h2 hod
    obtain ⟨⟨k, kv, v⟩, hkv⟩ : ∃ p, kvs[i]? = some p := ⟨kvs[i], List.getElem?_eq_getElem hi⟩
    obtain ⟨en, hen, hev⟩ := hE.get hkv
    have hel : e < s.heap.objs.size := Heap.lt_size he
    have hil : it < s.heap.objs.size := by obtain ⟨_, q, _⟩ := hit; exact Heap.lt_size q
    have dit : d ≠ it := fun z => by
      obtain ⟨oi, q, qc, qd⟩ := hit
      rw [← z, hgd] at q
      cases q
      rw [hod] at qd; cases qd
    have de : e ≠ d := fun z => by
      rw [z] at he
      have he := hgd.symm.trans he
      cases he
      cases hod
    refine wpAny_pyNext_enum_itemD (draws_keys (A := X.A.in1) (I.ok.hd hc) hod hE.len.symm dit) he ⟨hit, hgd⟩ hi hne (by simp [hne, de]) fun x h' tk hPx ho hst' hT hsz hk => ?_
    obtain ⟨en2, g1, rfl⟩ := hPx
    rw [hen] at g1
    obtain rfl := Option.some.inj g1
    refine ⟨_, rfl, wpAny_letOwnedTupleGo_enum (s := { s with heap := h', toks := tk + 1 }) ho fun h'' he' sb => ?_⟩
    have hT2 : h''.get? s.heap.objs.size = some { cls := .type "tuple", data := .seq #[.int i tk, en.key] } := (sb.2 _ (Nat.ne_of_gt hel)).trans hT
    have new : ObjOk X.prog X.w (upd H s.heap.objs.size (.tup [.int (i : Nat), kv])) h'' s.heap.objs.size (.tup [.int (i : Nat), kv]) :=
      ⟨by show 2 ≤ sizeLine; decide, [.int i tk, en.key], .cons ⟨_, rfl⟩ (.cons hev.2.1 .nil), ⟨_, hT2, rfl, _, rfl⟩⟩
    have I1 : Inv X pins σ (upd H s.heap.objs.size (.tup [.int (i : Nat), kv])) { s with heap := h'', toks := tk + 1 } :=
      I.turnedNew (ch := [e, it]) (fun b ob hb q => (sb.2 b (fun z => hb (by simp [z]))).trans (hk b ob (fun z => hb (by simp [z])) (fun z => hb (by simp [z])) q)) hf (Nat.le_refl _) new
    refine ⟨.ref s.heap.objs.size, _, I1, rfl, ⟨_, k, kv, v, rfl, I.hok.fresh (Nat.le_refl _), rfl, hkv⟩, ⟨⟨en.key, ?_⟩, hst'.1.at fun o q => (sb.2 it (Ne.symm hne)).trans q, hne⟩, fun b hb => ?_⟩
    · have e1 : ((i + 1 : Nat) : Int) = (i : Int) + 1 := by omega
      rw [e1]; exact he'
    · have hb' : b < s.heap.objs.size := by
        rcases (show b = e ∨ b = it by simpa using hb) with z | z
        · rw [z]; exact hel
        · rw [z]; exact hil
      rw [upd_ne (Nat.ne_of_lt hb')]
      exact (hf b hb).1
  done := by
    intro X hP hw hK hc i pins s σ H E I hf st hg
    subst hP hw hK
    obtain ⟨⟨old, he⟩, hit, hne⟩ := st
    obtain ⟨h1, h2, hi⟩ := hg
    obtain ⟨hgd, hx, hm, hE⟩ := df_at I h1 h2 hod
    obtain ⟨f0, f1, f2, f3, f4, f5⟩ := hf it (by simp)
    exact wpAny_pyNext_enum_endD (draws_end (A := X.A.in1) (I.ok.hd hc) hod hE.len.symm hi) he ⟨rfl, hit, hgd⟩ fun h' eb => ⟨rfl, I.turned (t' := s.toks) (fun b o hb q => eb b o hb q) f0 f1 f3 f4 f5⟩
  self := fun A i s Q E st h => let ⟨⟨_, he⟩, _⟩ := st; wpAny_pyIter_enum he h
end
def iEnumF (w : World) (ta : TA) : TI := fun σ H R => ta σ H fun vs H1 => ∃ d kvs, vs = [.ref d] ∧ DF w H1 d kvs ∧ ∀ od u, H1 d = some (.frz od u) → R (IteF w d od kvs) H1
theorem pi_enumF {X : Cx} {e : Expr} {ta : TA} {p pos tpos : Pos} {elts : List Expr} {kk : Nat} (hg : Gl X "enumerate") (hm : X.mg "enumerate" = none) (ha : PA X [e] ta) (hs : starEach [e] X.env = [(false, eval e X.env)] := by rfl) :
    PI X (.Tuple elts kk tpos) (.Call (.Name "enumerate" p) [e] [] pos) (iEnumF X.w ta) := by
  refine ⟨fun pins s σ H R I h => ?_⟩
  refine Call_ (ld_blt I hg hm boot_enumerate (PyProof.Rows.callWith_type1 (thn (ha.run pos pins s σ H _ I h) fun us s1 ⟨vs, H1, I1, r1, q1⟩ => ?_) hs rfl))
  obtain ⟨d, kvs, ex, hq, q⟩ := q1
  subst ex
  cases r1 with
  | cons r rr =>
    cases rr
    cases r
    obtain ⟨od, u2, es, ep, hf, ho, hx, hdt, hm, hE⟩ := hq.raw I1.hok
    refine call_enum_dict hm ho hx hdt fun h' he hit hsz hk => wpAny_pyIter_enum he ?_
    have I2 : Inv X pins σ H1 { s1 with heap := h' } := I1.kept (t' := s1.toks) hk
    rw [← hE.len] at hit
    refine ⟨s1.heap.objs.size + 1, [s1.heap.objs.size + 1, s1.heap.objs.size], _, _, H1, rfl, I2, turn_enumF (s1.heap.objs.size + 1) s1.heap.objs.size hdt, ⟨⟨.none, he⟩, hit, Nat.succ_ne_self _⟩, fun b hb => ?_, q od u2 hf⟩
    have hle : s1.heap.objs.size ≤ b := by
      rcases (show b = s1.heap.objs.size + 1 ∨ b = s1.heap.objs.size by simpa using hb) with z | z
      · rw [z]; exact Nat.le_add_right _ _
      · rw [z]; exact Nat.le_refl _
    exact I1.fpOk hle (I1.hok.fresh hle)
theorem walk_enumF {w : World} {d : Addr} {od : Obj} {kvs : List Kvv} : Walk (IteF w d od kvs) kvs.length (fun H => (∃ u, H d = some (.frz od u)) ∧ DF w H d kvs) (YPair (fun i => some (.int (i : Nat))) (fun i => kvs[i]?.map fun x => x.2.1)) := by
  refine ⟨fun i H hi h => ⟨h.1, h.2, hi⟩, fun H h => ⟨h.1, h.2, Nat.le_refl _⟩, fun i H x H' hi h y => ?_⟩
  obtain ⟨T, k, kv, v, h1, h2, h3, h4⟩ := y
  exact ⟨T, .int (i : Nat), kv, h1, h2, h3, rfl, by simp [h4]⟩
end My

set_option linter.all false
namespace My
open PySem PySem.Spec PyProof.Rows L2
/-! ### zip of a tuple and a list -/
/-- the tuple at a, the list at b, item by item in new pairs -/
def Itm (K : PySem.W.Frag) (a b : Addr) : It where
  go := fun i Hp0 => ∃ (vs ws : List V) (v w : V), SqT K Hp0 a vs ∧ SqL K Hp0 b ws ∧ vs[i]? = some v ∧ ws[i]? = some w
  yld := fun i Hp0 r Hp1 => ∃ q v w, r = .ref q ∧ Hp0 q = none ∧ Hp1 = upd Hp0 q (.tup [v, w]) ∧ (∀ vs, SqT K Hp0 a vs → vs[i]? = some v) ∧ ∀ ws, SqL K Hp0 b ws → ws[i]? = some w
  stop := fun i Hp0 => ∃ vs ws : List V, SqT K Hp0 a vs ∧ SqL K Hp0 b ws ∧ vs.length = ws.length ∧ i = vs.length
theorem notin2 {x y z : Addr} (h1 : z ≠ x) (h2 : z ≠ y) : z ∉ [x, y] := fun h => by
  rcases List.mem_cons.mp h with e | h
  · exact h1 e
  · exact h2 (List.mem_singleton.mp h)
theorem nat_far {n a k : Nat} (h : a < n) : n + k ≠ a := by omega
theorem nat_off {n j k : Nat} (h : j ≠ k) : n + j ≠ n + k := by omega
theorem adr_far {n a : Addr} (h : a < n) (k : Nat) : (show Nat from n) + k ≠ (show Nat from a) := nat_far (n := n) (a := a) h
structure Far (a b z ti to j1 j2 : Addr) : Prop where
  sep : ZipSep2 z ti to j1 j2 [j1, a] [j2, b]
  n1 : a ≠ j1
  n2 : b ≠ j2
theorem turn_mix {P : Program} {w : World} {K : PySem.W.Frag} {es : List Expr} {ek : Nat} {ep : Pos} {a b z ti to j1 j2 : Addr} (D : Far a b z ti to j1 j2) :
    Turn P w K (.Tuple es ek ep) (Itm K a b) [z, ti, to, j1, j2] z (fun i g => IsZip g z ti to .none ∧ IsTupOf2 g ti (.ref j1) (.ref j2) ∧ (∃ x y, IsTupOf2 g to x y) ∧ g.IsTupleIter j1 a i ∧ g.IsListIter j2 b i) where
  mem := List.mem_cons_self
  obj := fun i g st c hc => by
    obtain ⟨s1, s2, ⟨x, y, s3⟩, ⟨o1, e1, _, d1⟩, ⟨o2, e2, _, d2⟩⟩ := st
    simp only [List.mem_cons, List.not_mem_nil, or_false] at hc
    rcases hc with rfl | rfl | rfl | rfl | rfl
    · exact ⟨_, s1, fun v e => nomatch e⟩
    · exact ⟨_, s2, fun v e => nomatch e⟩
    · exact ⟨_, s3, fun v e => nomatch e⟩
    · exact ⟨o1, e1, fun v e => by rw [d1] at e; cases e⟩
    · exact ⟨o2, e2, fun v e => by rw [d2] at e; cases e⟩
  keep := fun i g g' st kp => by
    obtain ⟨s1, s2, ⟨x, y, s3⟩, s4, s5⟩ := st
    have kp' : ∀ c o, c ∈ [z, ti, to, j1, j2] → g.get? c = some o → g'.get? c = some o := fun c o hc e => kp c hc o e
    exact ⟨kp' z _ (by simp) s1, kp' ti _ (by simp) s2, ⟨x, y, kp' to _ (by simp) s3⟩, s4.at fun o e => kp' j1 o (by simp) e, s5.at fun o e => kp' j2 o (by simp) e⟩
  item := by
    intro X e1 e2 e3 calm i ps sh sl Hp0 E inv far st go
    subst e1 e2 e3
    obtain ⟨s1, s2, ⟨x0, y0, s3⟩, s4, s5⟩ := st
    obtain ⟨vs, ws, v, u, qa, qb, hv, hu⟩ := go
    obtain ⟨is1, r1, p1, _⟩ := inv.tuple qa
    obtain ⟨is2, r2, p2, _⟩ := inv.list qb
    obtain ⟨g1, m1, rr1⟩ := r1.get hv
    obtain ⟨g2, m2, rr2⟩ := r2.get hu
    have hh : X.A.in1.handled = none := inv.ok.hd calm
    have l1 : i < is1.toArray.size := by rw [List.size_toArray]; exact (List.getElem?_eq_some_iff.mp m1).1
    have l2 : i < is2.toArray.size := by rw [List.size_toArray]; exact (List.getElem?_eq_some_iff.mp m2).1
    have zl : z < sh.heap.objs.size := Heap.lt_size s1
    refine wpAny_pyNext_zipD2_item D.sep (Draws.tuple hh j1 a D.n1 is1.toArray) (Draws.list hh j2 b D.n2 is2.toArray) s1 s2 s3 ⟨s4, p1⟩ ⟨s5, p2.isList⟩ l1 l2 fun x1 x2 hq tk y1 y2 zq tq t1 t2 nq sq kq => ?_
    have ex1 : x1 = g1 := Option.some.inj (y1.symm.trans (by simpa using m1))
    have ex2 : x2 = g2 := Option.some.inj (y2.symm.trans (by simpa using m2))
    subst ex1 ex2
    refine ⟨_, rfl, wpAny_letOwnedTupleGo_zip (s := { sh with heap := hq, toks := tk }) zq fun hr zr sb => ?_⟩
    have nr : hr.get? sh.heap.objs.size = some { cls := .type "tuple", data := .seq #[x1, x2] } := (sb.2 _ (Nat.ne_of_gt zl)).trans nq
    have fine : ObjOk X.prog X.w (upd Hp0 sh.heap.objs.size (.tup [v, u])) hr sh.heap.objs.size (.tup [v, u]) :=
      ⟨show 2 ≤ sizeLine by decide, [x1, x2], .cons rr1 (.cons rr2 .nil), ⟨_, nr, rfl, _, rfl⟩⟩
    have stays : ∀ c o, c ∉ [z, ti, to, j1, j2] → sh.heap.get? c = some o → hr.get? c = some o := fun c o hc e => by
      simp only [List.mem_cons, List.not_mem_nil, or_false, not_or] at hc
      exact (sb.2 c hc.1).trans (kq c o hc.1 hc.2.2.1 hc.2.2.2.1 hc.2.2.2.2 e)
    have inv2 : Inv X ps sl (upd Hp0 sh.heap.objs.size (.tup [v, u])) { sh with heap := hr, toks := tk } :=
      inv.turnedNew (t' := tk) (ch := [z, ti, to, j1, j2]) stays far (Nat.le_refl _) fine
    have j1z : j1 ≠ z := fun e => D.sep.zf1 (by rw [← e]; exact D.sep.mem1)
    have j2z : j2 ≠ z := fun e => D.sep.zf2 (by rw [← e]; exact D.sep.mem2)
    refine ⟨.ref sh.heap.objs.size, _, inv2, rfl, ⟨_, v, u, rfl, inv.hok.fresh (Nat.le_refl _), rfl, fun l hl => by rw [inv.tuple_inj hl qa]; exact hv, fun l hl => by rw [inv.list_inj hl qb]; exact hu⟩, ⟨zr, ?_, ⟨x1, x2, ?_⟩, ?_, ?_⟩, fun c hc => ?_⟩
    · exact (sb.2 _ D.sep.TIz).trans (kq _ _ D.sep.TIz D.sep.TITO D.sep.TIi1 D.sep.TIi2 s2)
    · exact (sb.2 _ D.sep.TOz).trans tq
    · exact t1.1.at fun o e => (sb.2 _ j1z).trans e
    · exact t2.1.at fun o e => (sb.2 _ j2z).trans e
    · have lt : c < sh.heap.objs.size := by
        simp only [List.mem_cons, List.not_mem_nil, or_false] at hc
        rcases hc with e | e | e | e | e <;> subst e
        · exact zl
        · exact Heap.lt_size s2
        · exact Heap.lt_size s3
        · obtain ⟨_, e1, _⟩ := s4; exact Heap.lt_size e1
        · obtain ⟨_, e2, _⟩ := s5; exact Heap.lt_size e2
      rw [upd_ne (Nat.ne_of_lt lt)]
      exact (far c hc).1
  done := by
    intro X e1 e2 e3 calm i ps sh sl Hp0 E inv far st sp
    subst e1 e2 e3
    obtain ⟨s1, s2, ⟨x0, y0, s3⟩, s4, s5⟩ := st
    obtain ⟨vs, ws, qa, qb, same, at_end⟩ := sp
    obtain ⟨is1, r1, p1, _⟩ := inv.tuple qa
    obtain ⟨is2, r2, p2, _⟩ := inv.list qb
    have n1 := r1.length
    have n2 := r2.length
    have hh : X.A.in1.handled = none := inv.ok.hd calm
    have z1 : is1.toArray.size = is1.length := List.size_toArray
    have z2 : is2.toArray.size = is2.length := List.size_toArray
    refine wpAny_pyNext_zipD2_end D.sep (Draws.tuple hh j1 a D.n1 is1.toArray) (Draws.list hh j2 b D.n2 is2.toArray) s1 s2 s3 (i := i) ⟨s4, p1⟩ ⟨s5, p2.isList⟩ (by omega) (by omega) (.inl (by omega)) fun hq tk kq => ⟨rfl, ?_⟩
    refine inv.turnedL (t' := tk) (ch := [z, ti, to, j1, j2]) (fun c o hc e => ?_) far
    simp only [List.mem_cons, List.not_mem_nil, or_false, not_or] at hc
    exact kq c o hc.1 hc.2.2.1 hc.2.2.2.1 hc.2.2.2.2 e
  self := fun A i sh Q E st q => wpAny_pyIter_zip st.1 q
def iMix (K : PySem.W.Frag) (ta : TA) : TI := fun σ H R => ta σ H fun xs H1 => ∃ a b vs ws, xs = [.ref a, .ref b] ∧ SqT K H1 a vs ∧ SqL K H1 b ws ∧ R (Itm K a b) H1
theorem pi_zipM {X : Cx} {x y : Expr} {ta : TA} {p pos ep : Pos} {es : List Expr} {ek : Nat} (gl : Gl X "zip") (mz : X.mg "zip" = none) (args : PA X [x, y] ta)
    (st1 : starEach [x, y] X.env = (false, eval x X.env) :: starEach [y] X.env := by rfl) (st2 : (backTo pos (starEach [y] X.env)).any (·.1) = false := by rfl) :
    PI X (.Tuple es ek ep) (.Call (.Name "zip" p) [x, y] [] pos) (iMix X.K ta) := by
  refine ⟨fun ps sh sl Hp0 R inv h => ?_⟩
  refine Call_ (ld_blt inv gl mz PyProof.Rows.boot_zip (PyProof.Rows.callWith_type1 (thn (args.run pos ps sh sl Hp0 _ inv h) fun us s1 ⟨xs, H1, inv1, r1, q1⟩ => ?_) st1 st2))
  obtain ⟨a, b, vs, ws, rfl, qa, qb, q⟩ := q1
  obtain ⟨u1, u2, rfl, ra, rb⟩ := vals2 r1
  cases ra
  cases rb
  obtain ⟨is1, r1, p1, _⟩ := inv1.tuple qa
  obtain ⟨is2, r2, p2, _⟩ := inv1.list qb
  have la : a < s1.heap.objs.size := by obtain ⟨o, e, _⟩ := p1; exact Heap.lt_size e
  have lb := p2.lt
  refine zip_begins2 (begins_tuple a is1.toArray) (begins_list b is2.toArray) p1 p2.isList fun hq zq t2 t3 o1 o2 sq kq => wpAny_pyIter_zip zq ?_
  have inv2 : Inv X ps sl H1 { s1 with heap := hq } := inv1.kept (t' := s1.toks) kq
  have far : Far a b (s1.heap.objs.size + 4) (s1.heap.objs.size + 2) (s1.heap.objs.size + 3) s1.heap.objs.size (s1.heap.objs.size + 1) := by
    refine ⟨⟨nat_off (j := 2) (k := 4) (by decide), nat_off (j := 3) (k := 4) (by decide), nat_off (j := 2) (k := 3) (by decide), nat_off (j := 2) (k := 0) (by decide), List.mem_cons_self, notin2 (nat_off (j := 4) (k := 0) (by decide)) (adr_far la 4), notin2 (nat_off (j := 3) (k := 0) (by decide)) (adr_far la 3), nat_off (j := 2) (k := 1) (by decide), List.mem_cons_self,
      notin2 (nat_off (j := 4) (k := 1) (by decide)) (adr_far lb 4), notin2 (nat_off (j := 3) (k := 1) (by decide)) (adr_far lb 3), notin2 (nat_off (j := 0) (k := 1) (by decide)) (adr_far lb 0), notin2 (nat_off (j := 1) (k := 0) (by decide)) (adr_far la 1)⟩, (adr_far la 0).symm, (adr_far lb 1).symm⟩
  refine ⟨s1.heap.objs.size + 4, [s1.heap.objs.size + 4, s1.heap.objs.size + 2, s1.heap.objs.size + 3, s1.heap.objs.size, s1.heap.objs.size + 1], _, _, H1, rfl, inv2, turn_mix far, ⟨zq, t2, ⟨_, _, t3⟩, ⟨_, o1, rfl, rfl⟩, ⟨_, o2, rfl, rfl⟩⟩, fun c hc => ?_, q⟩
  have old : s1.heap.objs.size ≤ c := by
    simp only [List.mem_cons, List.not_mem_nil, or_false] at hc
    rcases hc with e | e | e | e | e <;> subst e
    · exact Nat.le_add_right _ _
    · exact Nat.le_add_right _ _
    · exact Nat.le_add_right _ _
    · exact Nat.le_refl _
    · exact Nat.le_add_right _ _
  have fr := inv1.fpOk old (inv1.hok.fresh old)
  exact fr
end My

set_option linter.all false
namespace My
open PySem PySem.Spec PyProof.Rows L2
abbrev sCbot : Stmt := topS 10
abbrev sInp : Stmt := topS 11
/-! ### shares told in parts -/
def lcmS (l : List (Int × Int)) : Nat := l.foldl (fun a s => Nat.lcm a s.2.natAbs) 1
structure ShL (H : Hp) (a : Addr) (l : List (Int × Int)) : Prop where
  ex : ∃ qs : List Addr, H a = some (.lst (qs.map V.ref)) ∧ qs.length = l.length ∧ ∀ (i : Nat) (q : Addr) (s : Int × Int), qs[i]? = some q → l[i]? = some s → H q = some (.tup [.int s.1, .int s.2])
  len : l.length ≤ 200
  ok : ∀ s ∈ l, 0 < s.1 ∧ s.1 ≤ 100 ∧ 0 < s.2 ∧ s.2 ≤ 100
theorem ShL.same {H H' : Hp} {a : Addr} {l : List (Int × Int)} (h : ShL H a l) (e : Same H H') : ShL H' a l := by
  obtain ⟨qs, h1, h2, h3⟩ := h.ex
  exact ⟨⟨qs, e _ _ h1, h2, fun i q s g1 g2 => e _ _ (h3 i q s g1 g2)⟩, h.len, h.ok⟩
def spCbot : Sp := fun vs H Q _ => ∃ (a : Addr) (l : List (Int × Int)) (B : Nat), vs = [.ref a] ∧ ShL H a l ∧ (∀ s ∈ l, s.2.natAbs ∣ B) ∧ 0 < B ∧ B < 2 ^ 5900 ∧ Q (.int ((lcmS l : Nat) : Int)) H
def spInp : Sp := fun vs H Q _ => ∃ (W : Nat) (a : Addr) (l : List (Int × Int)), vs = [.int W, .ref a] ∧ ShL H a l ∧ ∀ (D : Addr) (H' : Hp), Same H H' → H' D = some (.lst ((l.map fun s => s.1 * ((W : Int) / s.2)).map V.int)) → Q (.ref D) H'
theorem lcm_dv : ∀ (l : List (Int × Int)) (x B : Nat), x ∣ B → (∀ s ∈ l, s.2.natAbs ∣ B) → l.foldl (fun a s => Nat.lcm a s.2.natAbs) x ∣ B
  | [], x, B, h, _ => h
  | s :: r, x, B, h, hs => lcm_dv r _ B (Nat.lcm_dvd h (hs s List.mem_cons_self)) fun y hy => hs y (List.mem_cons_of_mem _ hy)
theorem dv_lcm : ∀ (l : List (Int × Int)) (x : Nat), x ∣ l.foldl (fun a s => Nat.lcm a s.2.natAbs) x ∧ ∀ s ∈ l, s.2.natAbs ∣ l.foldl (fun a s => Nat.lcm a s.2.natAbs) x
  | [], x => ⟨Nat.dvd_refl _, fun _ h => nomatch h⟩
  | s :: r, x => by
    obtain ⟨h1, h2⟩ := dv_lcm r (Nat.lcm x s.2.natAbs)
    refine ⟨Nat.dvd_trans (Nat.dvd_lcm_left _ _) h1, fun y hy => ?_⟩
    rcases List.mem_cons.mp hy with rfl | hy
    · exact Nat.dvd_trans (Nat.dvd_lcm_right _ _) h1
    · exact h2 y hy
section
variable {P : Program} {w : World} {K : PySem.W.Frag} {mg : Str → Option Value} {base : Heap}
theorem scCbot : FnScope ["fractions", "bottom", "_", "own"] ["fractions"] (defScope sCbot) := ⟨rfl, rfl, rfl, by decide +kernel, rfl, by decide +kernel, by decide +kernel⟩
theorem scInp : FnScope ["whole", "fractions", "top", "bottom"] ["whole", "fractions"] (defScope sInp) := ⟨rfl, rfl, rfl, by decide +kernel, rfl, by decide +kernel, by decide +kernel⟩
theorem ok_cbot {f : Addr} {fd : FuncData} (F : Fun K "_common_bottom" "_common_bottom" sCbot f fd) (gL : mg "lcm" = some (.builtin "math.lcm")) : FnOk P w K mg base CX0 1 f fd ["fractions"] spCbot := by
  refine F.ok scCbot (fun vs H Q E h => ?_) (fun cdv A outer s H vs Q E hr h => ?_)
  · obtain ⟨a, l, B, rfl, _⟩ := h
    rfl
  · obtain ⟨a, l, B, rfl, S, dB, B0, B6, k⟩ := h
    obtain ⟨qs, h1, h2, h3⟩ := S.ex
    refine ⟨_, (pss_cons (ps_set (i := 1) scCbot.nd rfl (Or.inl rfl) pe_int)
      (pss_cons (ps_for PassesOwn.never rfl (pi_list (pv 0)) (pg_tup (by rfl) (pgs_cons (pg_name (i := 2) scCbot.nd rfl (Or.inl rfl)) (pgs_cons (pg_name (i := 3) scCbot.nd rfl (Or.inl rfl)) pgs_nil))) (pss_one (ps_set (i := 1) scCbot.nd rfl (Or.inl rfl) (pe_callBfun cr_lcm (by rfl) gL (pa_cons (pv 1) (pa_cons (pv 3) pa_nil))))))
      (pss_one (ps_ret (pv 1))))), ?_⟩
    refine ⟨_, rfl, a, rfl, ⟨_, SqL.of h1⟩, for_it (walk_list (K := K) (a := a) (xs := qs.map V.ref)) (fun i σ Ho => (∃ y2 y3 : Option V, σ = [some (.ref a), some (.int ((lcmS (l.take i) : Nat) : Int)), y2, y3]) ∧ Ho = H) ?_ ?_ ?_ ?_⟩
    · exact ⟨⟨_, _, rfl⟩, rfl⟩
    · rintro i σ Ho _ ⟨_, rfl⟩
      exact SqL.of h1
    · rintro i x σ Ho Ho' hi ⟨⟨y2, y3, rfl⟩, rfl⟩ ⟨rfl, hx⟩
      rw [List.length_map] at hi
      obtain ⟨q, hq, rfl⟩ : ∃ q, qs[i]? = some q ∧ x = .ref q := by
        rw [List.getElem?_map, List.getElem?_eq_getElem hi] at hx
        exact ⟨qs[i], List.getElem?_eq_getElem hi, (Option.some.inj hx).symm⟩
      have hl : i < l.length := by omega
      have hs := List.getElem?_eq_getElem hl
      have ht := h3 i q _ hq hs
      have sok := S.ok _ (List.mem_of_getElem? hs)
      generalize l[i] = sx at hs ht sok
      have tk : l.take (i + 1) = l.take i ++ [sx] := by rw [List.take_add_one, hs]; rfl
      have bd : lcmS (l.take i) < 2 ^ 6000 := by
        refine Nat.lt_of_le_of_lt (Nat.le_of_dvd B0 (lcm_dv (l.take i) 1 B (Nat.one_dvd _) fun y hy => dB y (List.mem_of_mem_take hy))) (Nat.lt_of_lt_of_le B6 (Nat.pow_le_pow_right (by decide) (by decide)))
      have ob : sx.2.natAbs < 2 ^ 6000 := Nat.lt_of_le_of_lt (show sx.2.natAbs ≤ 100 by omega) (Nat.lt_of_lt_of_le (show 100 < 2 ^ 100 by decide) (Nat.pow_le_pow_right (by decide) (by decide)))
      have e2 : V.int sx.2 = V.int ((sx.2.natAbs : Nat) : Int) := by congr 1; omega
      refine ⟨q, _, rfl, SqT.of ht, rfl, _, _, rfl, _, _, rfl, rfl, ?_⟩
      refine ⟨_, rfl, _, rfl, lcmS (l.take i), sx.2.natAbs, by rw [e2], bd, ob, ?_⟩
      refine ⟨⟨some (.int sx.1), some (.int sx.2), ?_⟩, rfl⟩
      rw [tk]
      unfold lcmS
      rw [List.foldl_append]; rfl
    · rintro σ Ho ⟨⟨y2, y3, rfl⟩, rfl⟩
      rw [List.length_map, h2, List.take_length]
      exact ⟨_, rfl, k⟩
theorem ok_inp {f : Addr} {fd : FuncData} (F : Fun K "_in_parts" "_in_parts" sInp f fd) : FnOk P w K mg base CX0 1 f fd ["whole", "fractions"] spInp := by
  refine F.ok scInp (fun vs H Q E h => ?_) (fun cdv A outer s H vs Q E hr h => ?_)
  · obtain ⟨W, a, l, rfl, _⟩ := h
    rfl
  · obtain ⟨W, a, l, rfl, S, k⟩ := h
    obtain ⟨qs, h1, h2, h3⟩ := S.ex
    have l12 := S.len
    refine ⟨_, (pss_one (ps_ret (pe_lc (own := [("top", 2), ("bottom", 3)]) (g := gTup K 2 (gCons (gName 2) (gCons (gName 3) gNil))) (tt := tYes) rfl scInp.nd (pi_list (pv 1)) (blkOk_by (N := ["whole", "fractions", "top", "bottom"]) (sc := defScope sInp) (by decide +kernel)) (fun _ _ _ _ _ => (pg_tup (by rfl) (pgs_cons (pg_name (i := 2) scInp.nd rfl (Or.inl rfl)) (pgs_cons (pg_name (i := 3) scInp.nd rfl (Or.inl rfl)) pgs_nil)))) (fun _ _ _ _ _ => pts_nil) (fun _ _ _ _ _ => (pe_op (show OpR _ _ (rI CMul fun i j => .int (i * j)) from op_mul) (pv 2) (pe_op op_fdivW (pv 0) (pv 3))))))), ?_⟩
    refine ⟨_, rfl, a, rfl, ⟨_, SqL.of h1⟩, fun D nD => ?_⟩
    refine lc_gen (walk_list (K := K) (a := a) (xs := qs.map V.ref)) (fun _ => true) (fun i => .int (((l[i]?).getD (0, 1)).1 * ((W : Int) / ((l[i]?).getD (0, 1)).2))) nD (by rw [List.length_map, sizeLine_eq]; omega) (fun Ha sa => SqL.of (sa _ _ h1)) (fun i x Ha Hb hi sa yy Q2 R q2 r2 => ?_) fun Ha sa hD => ?_
    · obtain ⟨rfl, hx⟩ := yy
      rw [List.length_map] at hi
      obtain ⟨q, hq, rfl⟩ : ∃ q, qs[i]? = some q ∧ x = .ref q := by
        rw [List.getElem?_map, List.getElem?_eq_getElem hi] at hx
        exact ⟨qs[i], List.getElem?_eq_getElem hi, (Option.some.inj hx).symm⟩
      have hl : i < l.length := by omega
      have hs := List.getElem?_eq_getElem hl
      have ht := sa _ _ (h3 i q _ hq hs)
      have sok := S.ok _ (List.mem_of_getElem? hs)
      have q3 := q2 rfl
      rw [hs] at q3
      generalize l[i] = sx at hs ht sok q3
      refine ⟨q, _, rfl, SqT.of ht, rfl, _, _, rfl, _, _, rfl, rfl, rfl, ?_⟩
      unfold tYes
      dsimp only
      rw [if_pos rfl]
      exact ⟨_, rfl, _, rfl, _, rfl, _, _, rfl, rfl, ⟨sok.2.2.1, log_small (Nat.lt_of_le_of_lt (show sx.2.natAbs ≤ 1000 by omega) (by decide)) sok.2.2.1⟩, _, _, rfl, rfl, .inl ⟨by omega, by omega⟩, q3 Hb (Same.refl _)⟩
    · rw [range_all _ (fun _ => true), List.length_map] at hD
      refine k D Ha sa ?_
      rw [hD, h2]
      congr 2
      refine List.ext_getElem? fun i => ?_
      rw [List.getElem?_map, List.getElem?_map, List.getElem?_map]
      by_cases c : i < l.length
      · rw [List.getElem?_range c, List.getElem?_eq_getElem c]
        show some (V.int (((l[i]?).getD (0, 1)).1 * ((W : Int) / ((l[i]?).getD (0, 1)).2))) = _
        rw [List.getElem?_eq_getElem c]; rfl
      · rw [List.getElem?_eq_none (by rw [List.length_range]; omega), List.getElem?_eq_none (by omega)]; rfl
end
end My

set_option linter.all false
namespace My
open PySem PySem.Spec PyProof.Rows L2
abbrev sPrt : Stmt := topS 13
/-! ### a shared book's rows in parts -/
abbrev Ent := Int × Str × Int × Int
def RowT (H : Hp) (q : Addr) (es : List Ent) : Prop := ∃ ts ss : List Addr, H q = some (.tup (ts.map V.ref)) ∧ ts.length = es.length ∧ ss.length = es.length ∧ ∀ (j : Nat) (t s : Addr) (e : Ent), ts[j]? = some t → ss[j]? = some s → es[j]? = some e → H t = some (.tup [.int e.1, .str e.2.1, .ref s]) ∧ H s = some (.tup [.int e.2.2.1, .int e.2.2.2])
theorem RowT.same {H H' : Hp} {q : Addr} {es : List Ent} (h : RowT H q es) (s : Same H H') : RowT H' q es := by
  obtain ⟨ts, ss, h1, h2, h2', h3⟩ := h
  refine ⟨ts, ss, s _ _ h1, h2, h2', fun j t z e g1 g2 g3 => ?_⟩
  obtain ⟨k1, k2⟩ := h3 j t z e g1 g2 g3
  exact ⟨s _ _ k1, s _ _ k2⟩
theorem snoc_at {α : Type} {l : List α} {x z : α} {j : Nat} (h : (l ++ [x])[j]? = some z) : (j < l.length ∧ l[j]? = some z) ∨ (j = l.length ∧ x = z) := by
  by_cases c : j < l.length
  · rw [List.getElem?_append_left c] at h
    exact .inl ⟨c, h⟩
  · rw [List.getElem?_append_right (by omega)] at h
    have c2 : j - l.length = 0 := by
      cases hj : j - l.length with
      | zero => rfl
      | succ m => rw [hj] at h; simp at h
    rw [c2] at h
    exact .inr ⟨by omega, by simpa using h⟩
section
variable {J : It} {n : Nat} {G : Hp → Prop} {Y : Nat → Hp → V → Hp → Prop}
/-- a dict comprehension over a walk -/
theorem dc_it (w : Walk J n G Y) {g : TG} {tt : TT} {tk tv : TE} {vs : List Nat} {σ : L2.St} {H1 : Hp} {D : Addr} {Qd : Hp → Prop} (Pv : Nat → Hp → Prop) (h0 : Pv 0 (upd H1 D (.dK []))) (hG : ∀ i H, i ≤ n → Pv i H → G H)
    (hs : ∀ i x H H', i < n → Pv i H → Y i H x H' → g x (wipe σ vs) H' fun σ2 H2 => wipe σ2 vs = wipe σ vs ∧ tt σ2 H2 fun b H3 =>
      if b = true then tk σ2 H3 fun y H4 => tv σ2 H4 fun z H5 => ∃ kvs k, y = kV k ∧ H5 D = some (.dK kvs) ∧ kvs.length < sizeLine ∧ Pv (i + 1) (upd H5 D (.dK (putK kvs k z))) else Pv (i + 1) H3) (hd : ∀ H, Pv n H → Qd H) :
    ∃ W : Nat → Nat → Hp → Prop, (∃ m, W 0 m (upd H1 D (.dK []))) ∧ ∀ i m H, W i m H →
      (J.stop i H ∧ Qd H) ∨ (J.go i H ∧ ∃ Nx : Hp → Prop, (∀ H', Nx H' → ∃ m', m' < m ∧ W (i + 1) m' H') ∧ ∀ x H', J.yld i H x H' → g x (wipe σ vs) H' fun σ2 H2 => wipe σ2 vs = wipe σ vs ∧ tt σ2 H2 fun b H3 =>
        if b = true then tk σ2 H3 fun y H4 => tv σ2 H4 fun z H5 => ∃ kvs k, y = kV k ∧ H5 D = some (.dK kvs) ∧ kvs.length < sizeLine ∧ Nx (upd H5 D (.dK (putK kvs k z))) else Nx H3) := by
  refine ⟨fun i m H => m = n - i ∧ i ≤ n ∧ Pv i H, ⟨n, rfl, Nat.zero_le _, h0⟩, ?_⟩
  rintro i m H ⟨rfl, hi, p⟩
  have q := hG i H hi p
  by_cases lt : i < n
  · exact .inr ⟨w.goes i H lt q, Pv (i + 1), fun H' p' => ⟨_, by omega, rfl, lt, p'⟩, fun x H' y => hs i x H H' lt p (w.yields i H x H' lt q y)⟩
  · obtain rfl : i = n := by omega
    exact .inl ⟨w.stops H q, hd H p⟩
/-- the outer loop of a comprehension of two -/
theorem lc2_out (w : Walk J n G Y) {wi1 : TI} {g g1 : TG} {tt tt1 : TT} {te : TE} {vs vs1 : List Nat} {σ : L2.St} {H1 : Hp} {D : Addr} {Qd : Hp → Prop} (Pv : Nat → Hp → Prop) (h0 : Pv 0 (upd H1 D (.lst []))) (hG : ∀ i H, i ≤ n → Pv i H → G H)
    (hs : ∀ i x H H', i < n → Pv i H → Y i H x H' → g x (wipe σ vs) H' fun σ2 H2 => wipe σ2 vs = wipe σ vs ∧ tt σ2 H2 fun b H3 =>
      if b = true then wi1 σ2 H3 fun J1 H4 => ∃ W1 : Nat → Nat → Hp → Prop, (∃ m, W1 0 m H4) ∧ ∀ j k H, W1 j k H →
        (J1.stop j H ∧ Pv (i + 1) H) ∨ (J1.go j H ∧ ∃ Nx1 : Hp → Prop, (∀ H', Nx1 H' → ∃ k', k' < k ∧ W1 (j + 1) k' H') ∧ ∀ x H', J1.yld j H x H' → g1 x (wipe σ2 vs1) H' fun σ3 H5 => wipe σ3 vs1 = wipe σ2 vs1 ∧ tt1 σ3 H5 fun b H6 =>
          if b = true then te σ3 H6 fun y H7 => ∃ acc, H7 D = some (.lst acc) ∧ acc.length < sizeLine ∧ Nx1 (upd H7 D (.lst (acc ++ [y]))) else Nx1 H6)
      else Pv (i + 1) H3) (hd : ∀ H, Pv n H → Qd H) :
    ∃ W : Nat → Nat → Hp → Prop, (∃ m, W 0 m (upd H1 D (.lst []))) ∧ ∀ i m H, W i m H →
      (J.stop i H ∧ Qd H) ∨ (J.go i H ∧ ∃ Nx : Hp → Prop, (∀ H', Nx H' → ∃ m', m' < m ∧ W (i + 1) m' H') ∧ ∀ x H', J.yld i H x H' → g x (wipe σ vs) H' fun σ2 H2 => wipe σ2 vs = wipe σ vs ∧ tt σ2 H2 fun b H3 =>
      if b = true then wi1 σ2 H3 fun J1 H4 => ∃ W1 : Nat → Nat → Hp → Prop, (∃ m, W1 0 m H4) ∧ ∀ j k H, W1 j k H →
        (J1.stop j H ∧ Nx H) ∨ (J1.go j H ∧ ∃ Nx1 : Hp → Prop, (∀ H', Nx1 H' → ∃ k', k' < k ∧ W1 (j + 1) k' H') ∧ ∀ x H', J1.yld j H x H' → g1 x (wipe σ2 vs1) H' fun σ3 H5 => wipe σ3 vs1 = wipe σ2 vs1 ∧ tt1 σ3 H5 fun b H6 =>
          if b = true then te σ3 H6 fun y H7 => ∃ acc, H7 D = some (.lst acc) ∧ acc.length < sizeLine ∧ Nx1 (upd H7 D (.lst (acc ++ [y]))) else Nx1 H6)
      else Nx H3) := by
  refine ⟨fun i m H => m = n - i ∧ i ≤ n ∧ Pv i H, ⟨n, rfl, Nat.zero_le _, h0⟩, ?_⟩
  rintro i m H ⟨rfl, hi, p⟩
  have q := hG i H hi p
  by_cases lt : i < n
  · exact .inr ⟨w.goes i H lt q, Pv (i + 1), fun H' p' => ⟨_, by omega, rfl, lt, p'⟩, fun x H' y => hs i x H H' lt p (w.yields i H x H' lt q y)⟩
  · obtain rfl : i = n := by omega
    exact .inl ⟨w.stops H q, hd H p⟩
/-- the inner one -/
theorem lc2_in (w : Walk J n G Y) {g : TG} {tt : TT} {te : TE} {vs : List Nat} {σ : L2.St} {H1 : Hp} {D : Addr} {Qd : Hp → Prop} (Pv : Nat → Hp → Prop) (h0 : Pv 0 H1) (hG : ∀ i H, i ≤ n → Pv i H → G H)
    (hs : ∀ i x H H', i < n → Pv i H → Y i H x H' → g x (wipe σ vs) H' fun σ2 H2 => wipe σ2 vs = wipe σ vs ∧ tt σ2 H2 fun b H3 =>
      if b = true then te σ2 H3 fun y H4 => ∃ acc, H4 D = some (.lst acc) ∧ acc.length < sizeLine ∧ Pv (i + 1) (upd H4 D (.lst (acc ++ [y]))) else Pv (i + 1) H3) (hd : ∀ H, Pv n H → Qd H) :
    ∃ W : Nat → Nat → Hp → Prop, (∃ m, W 0 m H1) ∧ ∀ i m H, W i m H →
      (J.stop i H ∧ Qd H) ∨ (J.go i H ∧ ∃ Nx : Hp → Prop, (∀ H', Nx H' → ∃ m', m' < m ∧ W (i + 1) m' H') ∧ ∀ x H', J.yld i H x H' → g x (wipe σ vs) H' fun σ2 H2 => wipe σ2 vs = wipe σ vs ∧ tt σ2 H2 fun b H3 =>
        if b = true then te σ2 H3 fun y H4 => ∃ acc, H4 D = some (.lst acc) ∧ acc.length < sizeLine ∧ Nx (upd H4 D (.lst (acc ++ [y]))) else Nx H3) := by
  refine ⟨fun i m H => m = n - i ∧ i ≤ n ∧ Pv i H, ⟨n, rfl, Nat.zero_le _, h0⟩, ?_⟩
  rintro i m H ⟨rfl, hi, p⟩
  have q := hG i H hi p
  by_cases lt : i < n
  · exact .inr ⟨w.goes i H lt q, Pv (i + 1), fun H' p' => ⟨_, by omega, rfl, lt, p'⟩, fun x H' y => hs i x H H' lt p (w.yields i H x H' lt q y)⟩
  · obtain rfl : i = n := by omega
    exact .inl ⟨w.stops H q, hd H p⟩
/-- a comprehension that makes an object at each turn -/
theorem lc_madeO (w : Walk J n G Y) {g : TG} {tt : TT} {te : TE} {vs : List Nat} {σ : L2.St} {H1 : Hp} {D : Addr} {Qd : Hp → Prop} (f : Nat → HO) (nD : H1 D = none) (hn : n ≤ sizeLine) (hG : ∀ H, Same H1 H → G H)
    (hs : ∀ i x H H', i < n → Same H1 H → Y i H x H' → ∀ (Q : VK) (R : Hp → Prop), (∀ q H4, Same H H4 → H q = none → H4 q = some (f i) → Q (.ref q) H4) → g x (wipe σ vs) H' fun σ2 H2 => wipe σ2 vs = wipe σ vs ∧ tt σ2 H2 fun b H3 => if b = true then te σ2 H3 Q else R H3)
    (hd : ∀ H, Same H1 H → ∀ qs : List Addr, H D = some (.lst (qs.map V.ref)) → qs.length = n → (∀ (j : Nat) (q : Addr), qs[j]? = some q → H q = some (f j)) → Qd H) :
    ∃ W : Nat → Nat → Hp → Prop, (∃ m, W 0 m (upd H1 D (.lst []))) ∧ ∀ i m H, W i m H →
      (J.stop i H ∧ Qd H) ∨ (J.go i H ∧ ∃ Nx : Hp → Prop, (∀ H', Nx H' → ∃ m', m' < m ∧ W (i + 1) m' H') ∧ ∀ x H', J.yld i H x H' → g x (wipe σ vs) H' fun σ2 H2 => wipe σ2 vs = wipe σ vs ∧ tt σ2 H2 fun b H3 =>
        if b = true then te σ2 H3 fun y H4 => ∃ acc, H4 D = some (.lst acc) ∧ acc.length < sizeLine ∧ Nx (upd H4 D (.lst (acc ++ [y]))) else Nx H3) := by
  refine lc_it w (fun i H => Same H1 H ∧ ∃ qs : List Addr, H D = some (.lst (qs.map V.ref)) ∧ qs.length = i ∧ ∀ (j : Nat) (q : Addr), qs[j]? = some q → q ≠ D ∧ H q = some (f j)) ⟨same_upd nD, [], upd_same, rfl, fun j q h => by simp at h⟩ (fun i H _ h => hG H h.1) (fun i x H H' hi ⟨sa, qs, h1, h2, h3⟩ y => ?_) (fun H ⟨sa, qs, h1, h2, h3⟩ => hd H sa qs h1 h2 fun i q g => (h3 i q g).2)
  refine hs i x H H' hi sa y _ _ fun q H4 s4 nq hq => ?_
  refine ⟨_, s4 _ _ h1, by rw [List.length_map, h2]; omega, fun a o e => ?_, qs ++ [q], by rw [upd_same, List.map_append]; rfl, by rw [List.length_append, h2]; rfl, fun j z hz => ?_⟩
  · rw [upd_ne (fun z => by rw [z, nD] at e; cases e)]; exact s4 _ _ (sa _ _ e)
  · have qD : q ≠ D := fun z => by rw [z, h1] at nq; cases nq
    rcases snoc_at hz with ⟨c, hz⟩ | ⟨c, rfl⟩
    · obtain ⟨g1, g2⟩ := h3 j z hz
      refine ⟨g1, ?_⟩
      rw [upd_ne g1]
      exact s4 _ _ g2
    · refine ⟨qD, ?_⟩
      rw [upd_ne qD, hq, show j = i by omega]
end
structure ShB (w : World) (H : Hp) (bk : Addr) (b : Int) (ns : List Str) (Rw : List (List Ent)) : Prop where
  ex : ∃ (rr : Addr) (kvs : List Kvv) (qs : List Addr), H bk = some (.tup [.int b, .ref rr]) ∧ DF w H rr kvs ∧ kvs.map (fun x => x.2.1) = ns.map V.str ∧ kvs.map (fun x => x.2.2) = qs.map V.ref ∧ qs.length = Rw.length ∧ ∀ (i : Nat) (q : Addr) (es : List Ent), qs[i]? = some q → Rw[i]? = some es → RowT H q es
  len : ns.length = Rw.length
  nod : ns.Nodup
theorem ShB.same {w : World} {H H' : Hp} {bk : Addr} {b : Int} {ns : List Str} {Rw : List (List Ent)} (h : ShB w H bk b ns Rw) (s : Same H H') : ShB w H' bk b ns Rw := by
  obtain ⟨rr, kvs, qs, h1, h2, h3, h4, h5, h6⟩ := h.ex
  exact ⟨⟨rr, kvs, qs, s _ _ h1, h2.mono s, h3, h4, h5, fun i q es g1 g2 => (h6 i q es g1 g2).same s⟩, h.len, h.nod⟩
def shS (es : List Ent) : List (Int × Int) := es.map fun e => e.2.2
def allS (Rw : List (List Ent)) : List (Int × Int) := (Rw.map shS).flatten
def wholeS (Rw : List (List Ent)) : Nat := lcmS (allS Rw)
def triS (ns : List Str) (W : Nat) (es : List Ent) : List Tri := es.map fun e => (e.1, ns.idxOf e.2.1, e.2.2.1 * ((W : Int) / e.2.2.2))
structure EntOk (b : Int) (ns : List Str) (Rw : List (List Ent)) (B : Nat) : Prop where
  rows : Rw.length ≤ 8
  row : ∀ es ∈ Rw, es.length ≤ 12 ∧ ∀ e ∈ es, 0 ≤ e.1 ∧ e.1 < b ∧ e.2.1 ∈ ns ∧ 0 < e.2.2.1 ∧ e.2.2.1 ≤ 100 ∧ 0 < e.2.2.2 ∧ e.2.2.2 ≤ 100 ∧ e.2.2.2.natAbs ∣ B
  pos : 0 < B
  big : B < 2 ^ 5900
def spPrt (w : World) : Sp := fun vs H Q _ => ∃ (bk : Addr) (b : Int) (ns : List Str) (Rw : List (List Ent)) (B : Nat), vs = [.ref bk] ∧ ShB w H bk b ns Rw ∧ EntOk b ns Rw B ∧ ∀ (T L : Addr) (H' : Hp), Same H H' → H' T = some (.tup [.int (wholeS Rw), .ref L]) → TriL H' L (Rw.map (triS ns (wholeS Rw))) → Q (.ref T) H'
def numK (ns : List Str) (j : Nat) : List (Key × V) := (List.range j).map fun i => (Sum.inr (ns.getD i ""), V.int (i : Nat))
theorem numK_keys (ns : List Str) {j : Nat} (h : j ≤ ns.length) : (numK ns j).map (·.1) = (ns.take j).map Sum.inr := by
  unfold numK
  refine List.ext_getElem? fun i => ?_
  rw [List.getElem?_map, List.getElem?_map, List.getElem?_map, List.getElem?_take]
  by_cases c : i < j
  · rw [List.getElem?_range c, if_pos c, List.getElem?_eq_getElem (show i < ns.length by omega)]
    show some (Sum.inr (ns.getD i "")) = _
    rw [getD_at (List.getElem?_eq_getElem (show i < ns.length by omega))]; rfl
  · rw [List.getElem?_eq_none (by rw [List.length_range]; omega), if_neg c]; rfl
theorem valV_mem : ∀ {kvs : List (Key × V)} {k : Key} {v : V}, (kvs.map (·.1)).Nodup → (k, v) ∈ kvs → valV kvs k = some v
  | [], _, _, _, h => nomatch h
  | p :: r, k, v, nd, h => by
    rw [List.map_cons, List.nodup_cons] at nd
    rcases List.mem_cons.mp h with e | h
    · subst e; exact valV_pos rfl
    · rw [valV_neg (fun e => nd.1 (by rw [e]; exact List.mem_map.mpr ⟨_, h, rfl⟩))]
      exact valV_mem nd.2 h
theorem numK_get {ns : List Str} {x : Str} (nd : ns.Nodup) (h : x ∈ ns) : valV (numK ns ns.length) (Sum.inr x) = some (V.int (ns.idxOf x : Nat)) := by
  have hi := List.idxOf_lt_length_iff.mpr h
  have hx : ns[ns.idxOf x]? = some x := by rw [List.getElem?_eq_getElem hi, List.getElem_idxOf]
  refine valV_mem ?_ (List.mem_map.mpr ⟨ns.idxOf x, List.mem_range.mpr hi, ?_⟩)
  · rw [numK_keys ns (Nat.le_refl _), List.take_length]
    exact List.Pairwise.map _ (fun a b ne z => ne (by injection z)) nd
  · rw [getD_at hx]
theorem numK_put {ns : List Str} {j : Nat} {x : Str} (nd : ns.Nodup) (h : ns[j]? = some x) : putK (numK ns j) (Sum.inr x) (V.int (j : Nat)) = numK ns (j + 1) := by
  have hj := (List.getElem?_eq_some_iff.mp h).1
  rw [put_new (numK_keys ns (Nat.le_of_lt hj)) (take_new nd h)]
  unfold numK
  rw [List.range_succ, List.map_append]
  congr 1
  show _ = [(Sum.inr (ns.getD j ""), V.int (j : Nat))]
  rw [getD_at h]
def PrL (H : Hp) (as : List Addr) (l : List (Int × Int)) : Prop := as.length = l.length ∧ ∀ (j : Nat) (a : Addr) (s : Int × Int), as[j]? = some a → l[j]? = some s → H a = some (.tup [.int s.1, .int s.2])
theorem PrL.same {H H' : Hp} {as : List Addr} {l : List (Int × Int)} (h : PrL H as l) (e : Same H H') : PrL H' as l := ⟨h.1, fun j a s g1 g2 => e _ _ (h.2 j a s g1 g2)⟩
theorem PrL.snoc {H : Hp} {as : List Addr} {l : List (Int × Int)} {a : Addr} {s : Int × Int} (h : PrL H as l) (e : H a = some (.tup [.int s.1, .int s.2])) : PrL H (as ++ [a]) (l ++ [s]) := by
  refine ⟨by rw [List.length_append, List.length_append, h.1]; rfl, fun j x y g1 g2 => ?_⟩
  rcases snoc_at g1 with ⟨c, k1⟩ | ⟨c, rfl⟩ <;> rcases snoc_at g2 with ⟨d, k2⟩ | ⟨d, rfl⟩
  · exact h.2 j x y k1 k2
  · have := h.1; omega
  · have := h.1; omega
  · exact e
def TpL (H : Hp) (q : Addr) (es : List Tri) : Prop := ∃ ts : List Addr, H q = some (.lst (ts.map V.ref)) ∧ ts.length = es.length ∧ ∀ (j : Nat) (t : Addr) (e : Tri), ts[j]? = some t → es[j]? = some e → H t = some (.tup [.int e.1, .int (e.2.1 : Nat), .int e.2.2])
theorem TpL.same {H H' : Hp} {q : Addr} {es : List Tri} (h : TpL H q es) (s : Same H H') : TpL H' q es := by
  obtain ⟨ts, h1, h2, h3⟩ := h
  exact ⟨ts, s _ _ h1, h2, fun j t e g1 g2 => s _ _ (h3 j t e g1 g2)⟩
theorem TpL.put {H : Hp} {q F : Addr} {es : List Tri} {o : HO} {l : List V} (h : TpL H q es) (n : q ≠ F) (hF : H F = some (.lst l)) : TpL (upd H F o) q es := by
  obtain ⟨ts, h1, h2, h3⟩ := h
  refine ⟨ts, by rw [upd_ne n]; exact h1, h2, fun j t e g1 g2 => ?_⟩
  have := h3 j t e g1 g2
  rw [upd_ne (fun z => by rw [z, hF] at this; cases this)]
  exact this
theorem PrL.put {H : Hp} {F : Addr} {as : List Addr} {l : List (Int × Int)} {o : HO} {xs : List V} (h : PrL H as l) (hF : H F = some (.lst xs)) : PrL (upd H F o) as l := by
  refine ⟨h.1, fun j a s g1 g2 => ?_⟩
  have := h.2 j a s g1 g2
  rw [upd_ne (fun z => by rw [z, hF] at this; cases this)]
  exact this
theorem allS_len : ∀ {R : List (List Ent)}, (∀ es ∈ R, es.length ≤ 12) → (allS R).length ≤ 12 * R.length
  | [], _ => Nat.le_refl _
  | es :: R, h => by
    have := allS_len (R := R) fun x hx => h x (List.mem_cons_of_mem _ hx)
    have h1 := h es List.mem_cons_self
    show (shS es ++ allS R).length ≤ _
    rw [List.length_append, List.length_cons]
    unfold shS
    rw [List.length_map]
    omega
theorem allS_snoc {R : List (List Ent)} {i : Nat} {es : List Ent} (h : R[i]? = some es) : allS (R.take (i + 1)) = allS (R.take i) ++ shS es := by
  unfold allS
  rw [List.take_add_one, h, List.map_append, List.flatten_append]
  show _ ++ (shS es ++ []) = _
  rw [List.append_nil]
theorem shS_snoc {es : List Ent} {j : Nat} {e : Ent} (h : es[j]? = some e) : shS (es.take (j + 1)) = shS (es.take j) ++ [e.2.2] := by
  unfold shS
  rw [List.take_add_one, h, List.map_append]; rfl
theorem mem_allS {R : List (List Ent)} {s : Int × Int} (h : s ∈ allS R) : ∃ es ∈ R, ∃ e ∈ es, e.2.2 = s := by
  obtain ⟨l, h1, h2⟩ := List.mem_flatten.mp h
  obtain ⟨es, h3, rfl⟩ := List.mem_map.mp h1
  obtain ⟨e, h4, h5⟩ := List.mem_map.mp h2
  exact ⟨es, h3, e, h4, h5⟩
theorem val_ref {kvs : List Kvv} {qs : List Addr} {i : Nat} {k : NestedKey} {kv x : V} (h4 : kvs.map (fun x => x.2.2) = qs.map V.ref) (h : kvs[i]? = some (k, kv, x)) : ∃ q, qs[i]? = some q ∧ x = .ref q := by
  have e : (kvs.map fun x => x.2.2)[i]? = some x := by rw [List.getElem?_map, h]; rfl
  rw [h4] at e
  exact at_ref e
theorem walk_mix {K : PySem.W.Frag} {a b : Addr} {vs ws : List V} (e : vs.length = ws.length) : Walk (Itm K a b) vs.length (fun H => SqT K H a vs ∧ SqL K H b ws) (YPair (fun i => vs[i]?) (fun i => ws[i]?)) where
  goes := fun i H hi q => ⟨vs, ws, vs[i], ws[i], q.1, q.2, by simp [hi], by simp⟩
  stops := fun H q => ⟨vs, ws, q.1, q.2, e, rfl⟩
  yields := fun i H x H' hi q y => by
    obtain ⟨t, v, u, h1, h2, h3, h4, h5⟩ := y
    exact ⟨t, v, u, h1, h2, h3, h4 vs q.1, h5 ws q.2⟩
section
variable {P : Program} {w : World} {K : PySem.W.Frag} {mg : Str → Option Value} {base : Heap}
theorem scPrt : FnScope ["book", "rows", "numbers", "row", "whole", "found", "parts", "number", "name", "_", "share", "digit", "part"] ["book"] (defScope sPrt) := ⟨rfl, rfl, rfl, by decide +kernel, rfl, by decide +kernel, by decide +kernel⟩
set_option maxHeartbeats 1000000 in
theorem ok_prt {f fC fI : Addr} {fd fdC fdI : FuncData} (F : Fun K "_parted" "_parted" sPrt f fd) (T : TgS mg)
    (FC : Fun K "_common_bottom" "_common_bottom" sCbot fC fdC) (GC : FnOk P w K mg base CX0 1 fC fdC ["fractions"] spCbot) (bC : Binds K fdC ["fractions"] []) (gC : mg "_common_bottom" = some (.ref fC))
    (FI : Fun K "_in_parts" "_in_parts" sInp fI fdI) (GI : FnOk P w K mg base CX0 1 fI fdI ["whole", "fractions"] spInp) (bI : Binds K fdI ["whole", "fractions"] []) (gI : mg "_in_parts" = some (.ref fI)) : FnOk P w K mg base CX0 2 f fd ["book"] (spPrt w) := by
  refine F.ok scPrt (fun vs H Q E h => ?_) (fun cdv A outer s H vs Q E hr h => ?_)
  · obtain ⟨bk, b, ns, Rw, B, rfl, _⟩ := h
    rfl
  · obtain ⟨bk, b, ns, Rw, B, rfl, SB, EO, k⟩ := h
    have hr1 : Room 1 _ := hr.mono (by decide)
    have hu1 := Nat.lt_trans (Nat.add_lt_add_left (show 1 < 64 by decide) _) hr.units
    refine ⟨_, (pss_cons (ps_set (i := 1) scPrt.nd rfl (Or.inl rfl) (pe_ix ix_tup (pv 0) pe_int (fun _ _ => rfl)))
      (pss_cons (ps_set (i := 2) scPrt.nd rfl (Or.inr rfl) (pe_dc (own := [("number", 7), ("name", 8)]) (g := (gTup K 2 (gCons (gName 7) (gCons (gName 8) gNil)))) (tt := tYes) rfl scPrt.nd (pi_enumF (by rfl) T.enumerate (pa_cons (pv 1) pa_nil)) (blkOk_by (N := ["book", "rows", "numbers", "row", "whole", "found", "parts", "number", "name", "_", "share", "digit", "part"]) (sc := defScope sPrt) (by decide +kernel)) (fun _ _ _ _ _ => (pg_tup (by rfl) (pgs_cons (pg_name (i := 7) scPrt.nd rfl (Or.inl rfl)) (pgs_cons (pg_name (i := 8) scPrt.nd rfl (Or.inl rfl)) pgs_nil)))) (fun _ _ _ _ _ => pts_nil) (fun _ _ _ _ _ => (pv 8)) (fun _ _ _ _ _ => (pv 7))))
      (pss_cons (ps_set (i := 4) scPrt.nd rfl (Or.inl rfl) (pe_call GC hr1 (by rfl) gC FC.kp bC .nil pass0 (pa_cons (pe_lc2 (own := [("row", 3), ("_", 9), ("share", 10)]) (vs1 := [9, 10]) (g := gName 3) (g1 := (gTup K 3 (gCons (gName 9) (gCons (gName 9) (gCons (gName 10) gNil))))) (tt := tYes) (tt1 := tYes) rfl scPrt.nd (pi_valsF (pv 1)) (blkOk_by (N := ["book", "rows", "numbers", "row", "whole", "found", "parts", "number", "name", "_", "share", "digit", "part"]) (sc := defScope sPrt) (by decide +kernel)) (by decide) (fun _ _ _ _ _ => (pg_name (i := 3) scPrt.nd rfl (Or.inl rfl))) (fun _ _ _ _ _ => pts_nil) (fun _ _ _ _ _ => (show PI _ _ _ (iTup K _) from pi_tup (pv 3))) (fun _ _ _ _ _ => (pg_tup (by rfl) (pgs_cons (pg_name (i := 9) scPrt.nd rfl (Or.inl rfl)) (pgs_cons (pg_name (i := 9) scPrt.nd rfl (Or.inl rfl)) (pgs_cons (pg_name (i := 10) scPrt.nd rfl (Or.inl rfl)) pgs_nil))))) (fun _ _ _ _ _ => pts_nil) (fun _ _ _ _ _ => (pv 10))) pa_nil)))
      (pss_cons (ps_set (i := 5) scPrt.nd rfl (Or.inl rfl) (pe_lst pa_nil))
      (pss_cons (ps_for PassesOwn.never rfl (pi_valsF (pv 1)) (pg_name (i := 3) scPrt.nd rfl (Or.inl rfl)) (pss_cons (ps_set (i := 6) scPrt.nd rfl (Or.inl rfl) (pe_call GI hr1 (by rfl) gI FI.kp bI .nil pass0 (pa_cons (pv 4) (pa_cons (pe_lc (own := [("_", 9), ("share", 10)]) (g := (gTup K 3 (gCons (gName 9) (gCons (gName 9) (gCons (gName 10) gNil))))) (tt := tYes) rfl scPrt.nd (pi_tup (pv 3)) (blkOk_by (N := ["book", "rows", "numbers", "row", "whole", "found", "parts", "number", "name", "_", "share", "digit", "part"]) (sc := defScope sPrt) (by decide +kernel)) (fun _ _ _ _ _ => (pg_tup (by rfl) (pgs_cons (pg_name (i := 9) scPrt.nd rfl (Or.inl rfl)) (pgs_cons (pg_name (i := 9) scPrt.nd rfl (Or.inl rfl)) (pgs_cons (pg_name (i := 10) scPrt.nd rfl (Or.inl rfl)) pgs_nil))))) (fun _ _ _ _ _ => pts_nil) (fun _ _ _ _ _ => (pv 10))) pa_nil))))
      (pss_one (ps_expr (pe_bm PySem.F.plainAttrs_list PySem.F.slot_list_append PySem.F.type_list_append mt_append (pv 5) (pa_cons (pe_lc (own := [("digit", 11), ("name", 8), ("_", 9), ("part", 12)]) (g := (gTup K 2 (gCons (gTup K 3 (gCons (gName 11) (gCons (gName 8) (gCons (gName 9) gNil)))) (gCons (gName 12) gNil)))) (tt := tYes) rfl scPrt.nd (pi_zipM (by rfl) T.zip (pa_cons (pv 3) (pa_cons (pv 6) pa_nil))) (blkOk_by (N := ["book", "rows", "numbers", "row", "whole", "found", "parts", "number", "name", "_", "share", "digit", "part"]) (sc := defScope sPrt) (by decide +kernel)) (fun _ _ _ _ _ => (pg_tup (by rfl) (pgs_cons (pg_tup (by rfl) (pgs_cons (pg_name (i := 11) scPrt.nd rfl (Or.inl rfl)) (pgs_cons (pg_name (i := 8) scPrt.nd rfl (Or.inl rfl)) (pgs_cons (pg_name (i := 9) scPrt.nd rfl (Or.inl rfl)) pgs_nil)))) (pgs_cons (pg_name (i := 12) scPrt.nd rfl (Or.inl rfl)) pgs_nil)))) (fun _ _ _ _ _ => pts_nil) (fun _ _ _ _ _ => (pe_tup (pa_cons (pv 11) (pa_cons (pe_dget hu1 (pv 2) (pv 8) (fun _ _ => rfl)) (pa_cons (pv 12) pa_nil)))))) pa_nil))))))
      (pss_one (ps_ret (pe_tup (pa_cons (pv 4) (pa_cons (pv 5) pa_nil)))))))))), ?_⟩
    obtain ⟨rr, kvs, qs, h1, h2, h3, h4, h5, h6⟩ := SB.ex
    have hW : lcmS (allS Rw) = wholeS Rw := rfl
    generalize wholeS Rw = W at hW k
    have lk : kvs.length = ns.length := by have := congrArg List.length h3; rwa [List.length_map, List.length_map] at this
    have l8 := EO.rows
    refine ⟨_, rfl, bk, _, 1, _, rfl, rfl, SqT.of h1, rfl, ?_⟩
    refine ⟨_, rfl, rr, kvs, rfl, h2, fun od u hf D nD => ?_⟩
    refine dc_it (walk_enumF (w := w) (d := rr) (od := od) (kvs := kvs)) (fun j Hj => Same H Hj ∧ Hj D = some (.dK (numK ns j))) ⟨same_upd nD, upd_same⟩ (fun j Hj _ z => ⟨⟨u, z.1 _ _ hf⟩, h2.mono z.1⟩) (fun j x Hj Hj' hj ⟨sa, hD⟩ yy => ?_) (fun H2 ⟨s2, hD⟩ => ?_)
    · obtain ⟨T1, v1, v2, rfl, nT, rfl, e1, e2⟩ := yy
      obtain rfl := Option.some.inj e1
      rw [lk] at hj
      have hx := List.getElem?_eq_getElem hj
      have e3 : (kvs.map fun x => x.2.1)[j]? = (ns.map V.str)[j]? := by rw [h3]
      rw [List.getElem?_map, List.getElem?_map, hx] at e3
      replace e2 : kvs[j]?.map (fun x => x.2.1) = some v2 := e2
      rw [e2] at e3
      obtain rfl := Option.some.inj e3
      have sT := same_upd (o := .tup [.int (j : Nat), .str ns[j]]) nT
      refine ⟨T1, _, rfl, SqT.of upd_same, rfl, _, _, rfl, _, _, rfl, rfl, rfl, tyes ?_⟩
      refine ⟨_, rfl, _, rfl, numK ns j, Sum.inr ns[j], rfl, sT _ _ hD, by unfold numK; rw [List.length_map, List.length_range, sizeLine_eq]; have := SB.len; omega, fun a o e => ?_, ?_⟩
      · rw [upd_ne (fun z => by rw [z, nD] at e; cases e)]; exact sT _ _ (sa _ _ e)
      · rw [upd_same, numK_put SB.nod hx]
    · rw [lk] at hD
      refine ⟨_, rfl, rr, kvs, rfl, h2.mono s2, fun od2 u2 hf2 D2 nD2 => ?_⟩
      have lq : kvs.length = Rw.length := by rw [lk, SB.len]
      refine lc2_out (walk_valsF (w := w) (d := rr) (od := od2) (kvs := kvs)) (fun i Hj => Same H2 Hj ∧ ∃ as : List Addr, Hj D2 = some (.lst (as.map V.ref)) ∧ PrL Hj as (allS (Rw.take i))) ⟨same_upd nD2, [], upd_same, rfl, fun j a s z => by simp at z⟩ (fun i Hj _ z => ⟨⟨u2, z.1 _ _ hf2⟩, (h2.mono s2).mono z.1⟩) (fun i x Hj Hj' hi ⟨sa, as, ha, pa⟩ yy => ?_) (fun H4 ⟨s4, as, ha, pa⟩ => ?_)
      · obtain ⟨rfl, k0, kv0, hkv⟩ := yy
        obtain ⟨q, hq, rfl⟩ := val_ref h4 hkv
        rw [lq] at hi
        have hes := List.getElem?_eq_getElem hi
        obtain ⟨e12, eok⟩ := EO.row _ (List.getElem_mem hi)
        have al := allS_len (R := Rw.take i) fun es h => (EO.row es (List.mem_of_mem_take h)).1
        have asn := allS_snoc hes
        rw [List.length_take] at al
        generalize Rw[i] = es at hes e12 eok asn
        obtain ⟨ts, ss, k1, k2, k3, k4⟩ := h6 i q es hq hes
        have toHj : ∀ a o, H a = some o → Hj' a = some o := fun a o e => sa _ _ (s2 _ _ e)
        refine ⟨rfl, tyes ?_⟩
        refine ⟨_, rfl, q, rfl, ⟨_, SqT.of (toHj _ _ k1)⟩, ?_⟩
        refine lc2_in (walk_tup (K := K) (a := q) (xs := ts.map V.ref)) (fun j Hx => Same H2 Hx ∧ ∃ as : List Addr, Hx D2 = some (.lst (as.map V.ref)) ∧ PrL Hx as (allS (Rw.take i) ++ shS (es.take j))) ⟨sa, as, ha, by simpa [shS] using pa⟩ (fun j Hx _ z => SqT.of (z.1 _ _ (s2 _ _ k1))) (fun j x Hx Hx' hj ⟨sx, as, ha, pa⟩ yy => ?_) (fun Hx ⟨sx, as, ha, pa⟩ => ⟨sx, as, ha, ?_⟩)
        · obtain ⟨rfl, hx⟩ := yy
          obtain ⟨t, ht, rfl⟩ := at_ref hx
          rw [List.length_map, k2] at hj
          have he := List.getElem?_eq_getElem hj
          have hs := List.getElem?_eq_getElem (show j < ss.length by omega)
          obtain ⟨c1, c2⟩ := k4 j t _ _ ht hs he
          have asn2 := shS_snoc he
          generalize es[j] = e at he c1 c2 asn2
          generalize ss[j] = sj at hs c1 c2
          have pl := pa.1
          rw [List.length_append] at pl
          have sl : (shS (es.take j)).length ≤ 12 := by unfold shS; rw [List.length_map, List.length_take]; omega
          refine ⟨t, _, rfl, SqT.of (sx _ _ (s2 _ _ c1)), rfl, _, _, rfl, _, _, rfl, _, _, rfl, rfl, rfl, tyes ?_⟩
          refine ⟨_, rfl, _, ha, by rw [List.length_map, sizeLine_eq]; omega, fun a o e => ?_, as ++ [sj], by rw [upd_same, List.map_append]; rfl, ?_⟩
          · rw [upd_ne (fun z => by rw [z, nD2] at e; cases e)]; exact sx _ _ e
          · rw [asn2, ← List.append_assoc]
            refine (pa.put ha).snoc ?_
            have := sx _ _ (s2 _ _ c2)
            rw [upd_ne (fun z => by rw [z, ha] at this; cases this)]
            exact this
        · rw [List.length_map, k2, List.take_length] at pa
          rw [asn]; exact pa
      · rw [lq, List.take_length] at pa
        have al := allS_len (R := Rw) fun es h => (EO.row es h).1
        refine ⟨D2, allS Rw, B, rfl, ⟨⟨as, ha, pa.1, pa.2⟩, by omega, fun s hs => ?_⟩, fun s hs => ?_, EO.pos, EO.big, ?_⟩
        · obtain ⟨es, g1, e, g2, rfl⟩ := mem_allS hs
          obtain ⟨_, _, _, w1, w2, w3, w4, _⟩ := (EO.row es g1).2 e g2
          exact ⟨w1, w2, w3, w4⟩
        · obtain ⟨es, g1, e, g2, rfl⟩ := mem_allS hs
          exact ((EO.row es g1).2 e g2).2.2.2.2.2.2.2
        · rw [hW]
          refine ⟨by show 0 ≤ sizeLine; exact Nat.zero_le _, fun F nF => ?_⟩
          have sF := same_upd (o := .lst []) nF
          have s04 : Same H H4 := s2.trans s4
          refine ⟨_, rfl, rr, kvs, rfl, (h2.mono s04).mono sF, fun od3 u3 hf3 => ?_⟩
          have e1 := sF _ _ (s04 _ _ hf)
          rw [hf3] at e1
          cases e1
          refine for_it (walk_valsF (w := w) (d := rr) (kvs := kvs)) (fun i σ Ho => Same H4 Ho ∧ (∃ y3 y6 : Option V, σ = [some (.ref bk), some (.ref rr), some (.ref D), y3, some (.int (W : Nat)), some (.ref F), y6, none, none, none, none, none, none]) ∧ ∃ ds : List Addr, Ho F = some (.lst (ds.map V.ref)) ∧ ds.length = i ∧ ∀ (j : Nat) (d : Addr) (es : List Ent), ds[j]? = some d → Rw[j]? = some es → d ≠ F ∧ TpL Ho d (triS ns (W) es)) ?_ ?_ ?_ ?_
          · exact ⟨sF, ⟨_, _, rfl⟩, [], upd_same, rfl, fun j d es z => by simp at z⟩
          · exact fun i σ Ho _ z => ⟨⟨_, z.1 _ _ (s04 _ _ hf)⟩, (h2.mono s04).mono z.1⟩
          · rintro i x σ Ho Ho' hi ⟨sa, ⟨y3, y6, rfl⟩, ds, hFo, ld, hds⟩ ⟨rfl, k0, kv0, hkv⟩
            obtain ⟨q, hq, rfl⟩ := val_ref h4 hkv
            rw [lq] at hi
            have hes := List.getElem?_eq_getElem hi
            obtain ⟨e12, eok⟩ := EO.row _ (List.getElem_mem hi)
            generalize Rw[i] = es at hes e12 eok
            obtain ⟨ts, ss, k1, k2, k3, k4⟩ := h6 i q es hq hes
            have toHo : ∀ a o, H a = some o → Ho' a = some o := fun a o e => sa _ _ (s04 _ _ e)
            refine ⟨_, rfl, _, rfl, q, rfl, ⟨_, SqT.of (toHo _ _ k1)⟩, fun D3 nD3 => ?_⟩
            refine lc_gen (walk_tup (K := K) (a := q) (xs := ts.map V.ref)) (fun _ => true) (fun j => .ref (ss.getD j 0)) nD3 (by rw [List.length_map, k2, sizeLine_eq]; omega) (fun Hc sc => SqT.of (sc _ _ (toHo _ _ k1))) (fun j x Hc Hd hj sc yy Q3 R3 q4 r4 => ?_) fun Hc sc hD3 => ?_
            · obtain ⟨rfl, hx⟩ := yy
              obtain ⟨t, ht, rfl⟩ := at_ref hx
              rw [List.length_map, k2] at hj
              have he := List.getElem?_eq_getElem hj
              have hs := List.getElem?_eq_getElem (show j < ss.length by omega)
              obtain ⟨c1, c2⟩ := k4 j t _ _ ht hs he
              have q5 := q4 rfl
              rw [getD_at hs] at q5
              exact ⟨t, _, rfl, SqT.of (sc _ _ (toHo _ _ c1)), rfl, _, _, rfl, _, _, rfl, _, _, rfl, rfl, rfl, tyes ⟨_, rfl, q5 _ (Same.refl _)⟩⟩
            · rw [range_all _ (fun _ => true), List.length_map, k2, ← k3, range_getD (fun a => V.ref a) 0 ss] at hD3
              have toHc : ∀ a o, H a = some o → Hc a = some o := fun a o e => sc _ _ (toHo _ _ e)
              refine ⟨W, D3, shS es, rfl, ⟨⟨ss, hD3, by unfold shS; rw [List.length_map]; exact k3, fun j a s g1 g2 => ?_⟩, by unfold shS; rw [List.length_map]; omega, fun s hs => ?_⟩, fun D5 H5 s5 h5 => ?_⟩
              · unfold shS at g2
                rw [List.getElem?_map] at g2
                obtain ⟨e, g3, rfl⟩ := Option.map_eq_some_iff.mp g2
                have g4 := List.getElem?_eq_getElem (show j < ts.length by have := (List.getElem?_eq_some_iff.mp g3).1; omega)
                exact toHc _ _ (k4 j _ a e g4 g1 g3).2
              · obtain ⟨e, g1, rfl⟩ := List.mem_map.mp hs
                obtain ⟨_, _, _, w1, w2, w3, w4, _⟩ := eok e g1
                exact ⟨w1, w2, w3, w4⟩
              · have toH5 : ∀ a o, H a = some o → H5 a = some o := fun a o e => s5 _ _ (toHc _ _ e)
                have l5 : (shS es).length = es.length := by unfold shS; rw [List.length_map]
                refine ⟨_, rfl, .inl ⟨rfl, _, SqL.of (s5 _ _ (sc _ _ hFo))⟩, ?_⟩
                refine ⟨_, rfl, _, rfl, q, D5, _, _, rfl, SqT.of (toH5 _ _ k1), SqL.of h5, fun D6 nD6 => ?_⟩
                refine lc_madeO (walk_mix (K := K) (a := q) (b := D5) (vs := ts.map V.ref) (ws := ((shS es).map fun s => s.1 * ((W : Int) / s.2)).map V.int) (by simp [l5, k2])) (fun j => .tup [.int ((triS ns W es).getD j (0, 0, 0)).1, .int (((triS ns W es).getD j (0, 0, 0)).2.1 : Nat), .int ((triS ns W es).getD j (0, 0, 0)).2.2]) nD6 (by rw [List.length_map, k2, sizeLine_eq]; omega) (fun Hx sx => ⟨SqT.of (sx _ _ (toH5 _ _ k1)), SqL.of (sx _ _ h5)⟩) (fun j x Hx Hy hj sx yy Q3 R3 q4 => ?_) fun Hx sx qs6 hD6 lq6 hqs6 => ?_
                · obtain ⟨T1, v1, v2, rfl, nT, rfl, e1, e2⟩ := yy
                  obtain ⟨t, ht, rfl⟩ := at_ref e1
                  rw [List.length_map, k2] at hj
                  have he := List.getElem?_eq_getElem hj
                  have hs := List.getElem?_eq_getElem (show j < ss.length by omega)
                  obtain ⟨c1, c2⟩ := k4 j t _ _ ht hs he
                  obtain ⟨_, _, wn, _⟩ := eok _ (List.getElem_mem hj)
                  have e3 : (((shS es).map fun s => s.1 * ((W : Int) / s.2)).map V.int)[j]? = some (.int (es[j].2.2.1 * ((W : Int) / es[j].2.2.2))) := by
                    unfold shS
                    rw [List.getElem?_map, List.getElem?_map, List.getElem?_map, he]; rfl
                  replace e2 : (((shS es).map fun s => s.1 * ((W : Int) / s.2)).map V.int)[j]? = some v2 := e2
                  rw [e3] at e2
                  obtain rfl := Option.some.inj e2
                  have e4 : (triS ns W es)[j]? = some (es[j].1, ns.idxOf es[j].2.1, es[j].2.2.1 * ((W : Int) / es[j].2.2.2)) := by
                    unfold triS
                    rw [List.getElem?_map, he]; rfl
                  rw [getD_at e4] at q4
                  generalize es[j] = e at he c1 c2 wn e3 e4 q4
                  have sT := same_upd (o := .tup [.ref t, .int (e.2.2.1 * ((W : Int) / e.2.2.2))]) nT
                  refine ⟨T1, _, rfl, SqT.of upd_same, rfl, _, _, rfl, t, _, rfl, SqT.of (sT _ _ (sx _ _ (toH5 _ _ c1))), rfl, _, _, rfl, _, _, rfl, _, _, rfl, rfl, _, _, rfl, rfl, rfl, tyes ?_⟩
                  refine ⟨_, rfl, _, rfl, _, rfl, D, _, rfl, ?_, _, rfl, by show 3 ≤ sizeLine; rw [sizeLine_eq]; decide, fun p np => q4 p _ (sT.trans (same_upd np)) (sT.free np) upd_same⟩
                  have hDD := sT _ _ (sx _ _ (s5 _ _ (sc _ _ (sa _ _ (s4 _ _ hD)))))
                  have := DGet.k (k := Sum.inr e.2.1) hDD
                  rw [numK_get SB.nod wn] at this
                  exact this
                · rw [List.length_map, k2] at lq6
                  have nH4F : H4 F = none := nF
                  have s46 : Same H4 Hx := fun a o e => sx _ _ (s5 _ _ (sc _ _ (sa _ _ e)))
                  have hF6 : Hx F = some (.lst (ds.map V.ref)) := sx _ _ (s5 _ _ (sc _ _ hFo))
                  have D6F : D6 ≠ F := fun z => by
                    have := s5 _ _ (sc _ _ hFo)
                    rw [← z, nD6] at this; cases this
                  refine ⟨F, _, _, rfl, rfl, hF6, by rw [List.length_map, ld, sizeLine_eq]; omega, ?_⟩
                  refine ⟨fun a o e => by rw [upd_ne (fun z => by rw [z, nH4F] at e; cases e)]; exact s46 _ _ e, ⟨_, _, rfl⟩, ds ++ [D6], by rw [upd_same, List.map_append]; rfl, by rw [List.length_append, ld]; rfl, fun j d es2 z1 z2 => ?_⟩
                  rcases snoc_at z1 with ⟨c, z1⟩ | ⟨c, rfl⟩
                  · obtain ⟨w1, w2⟩ := hds j d es2 z1 z2
                    exact ⟨w1, (w2.same (fun a o e => sx _ _ (s5 _ _ (sc _ _ e)))).put w1 hF6⟩
                  · rw [show j = i by omega, hes] at z2
                    obtain rfl := Option.some.inj z2
                    refine ⟨D6F, TpL.put ⟨qs6, hD6, by unfold triS; rw [List.length_map]; exact lq6, fun j t e g1 g2 => ?_⟩ D6F hF6⟩
                    have := hqs6 j t g1
                    rw [getD_at g2] at this
                    exact this
          · rintro σ Ho ⟨sa, ⟨y3, y6, rfl⟩, ds, hFo, ld, hds⟩
            rw [lq] at ld
            refine ⟨_, rfl, _, rfl, by show 2 ≤ sizeLine; rw [sizeLine_eq]; decide, fun T nT => ?_⟩
            have sT := same_upd (o := .tup [.int (W : Nat), .ref F]) nT
            refine k T F _ ((s04.trans sa).trans sT) upd_same ⟨⟨ds, sT _ _ hFo, by rw [List.length_map]; exact ld, fun i q es g1 g2 => ?_⟩, fun es hes e he => ?_⟩
            · rw [List.getElem?_map] at g2
              obtain ⟨es0, g3, rfl⟩ := Option.map_eq_some_iff.mp g2
              obtain ⟨_, ts, w1, w2, w3⟩ := hds i q es0 g1 g3
              exact ⟨ts, sT _ _ w1, w2, fun j t e z1 z2 => sT _ _ (w3 j t e z1 z2)⟩
            · obtain ⟨es0, g3, rfl⟩ := List.mem_map.mp hes
              obtain ⟨e0, g4, rfl⟩ := List.mem_map.mp he
              have := ((EO.row es0 g3).2 e0 g4).2.2.1
              rw [List.length_map, ← SB.len]
              exact List.idxOf_lt_length_iff.mpr this
end
end My

set_option linter.all false
namespace My
open PySem PySem.Spec PyProof.Rows L2
/-! ### the two systems of a shared book -/
theorem partS_cons (e : Tri) (es : List Tri) (j : Nat) : partS (e :: es) j = (if e.2.1 = j then e.2.2 else 0) + partS es j := by
  unfold partS
  by_cases c : e.2.1 = j
  · rw [if_pos c, List.filter_cons, if_pos (by simpa using c), List.map_cons, List.sum_cons]
  · rw [if_neg c, List.filter_cons, if_neg (by simpa using c), Int.zero_add]
def totS (es : List Tri) : Int := (es.map fun e => e.2.2).sum
theorem partS_le : ∀ {es : List Tri} {j : Nat}, (∀ e ∈ es, 0 ≤ e.2.2) → 0 ≤ partS es j ∧ partS es j ≤ totS es
  | [], j, _ => ⟨Int.le_refl 0, Int.le_refl 0⟩
  | e :: es, j, h => by
    obtain ⟨h1, h2⟩ := partS_le (es := es) (j := j) fun x hx => h x (List.mem_cons_of_mem _ hx)
    have h3 := h e List.mem_cons_self
    rw [partS_cons]
    have : totS (e :: es) = e.2.2 + totS es := rfl
    split <;> omega
theorem le_tot : ∀ {es : List Tri}, (∀ e ∈ es, 0 ≤ e.2.2) → ∀ e ∈ es, e.2.2 ≤ totS es
  | x :: r, h, e, he => by
    have n0 : 0 ≤ totS r := by have := partS_le (es := r) (j := 0) fun y hy => h y (List.mem_cons_of_mem _ hy); omega
    have n1 := h x List.mem_cons_self
    have e1 : totS (x :: r) = x.2.2 + totS r := rfl
    rcases List.mem_cons.mp he with rfl | he
    · omega
    · have := le_tot (es := r) (fun y hy => h y (List.mem_cons_of_mem _ hy)) e he
      omega
theorem partS_tot : ∀ {es : List Tri} {n : Nat}, (∀ e ∈ es, e.2.1 < n) → ((List.range n).map fun j => partS es j).sum = totS es
  | [], n, _ => Dt.sum_zero fun t _ => rfl
  | e :: es, n, h => by
    have ih := partS_tot (es := es) (n := n) fun x hx => h x (List.mem_cons_of_mem _ hx)
    have e1 : ((List.range n).map fun j => partS (e :: es) j).sum = ((List.range n).map fun j => partS es j - (0 - (if e.2.1 = j then e.2.2 else 0))).sum := Dt.sum_ext fun j _ => by rw [partS_cons]; omega
    rw [e1, Dt.sum_sub, ih]
    have e2 : ((List.range n).map fun j => (0 : Int) - (if e.2.1 = j then e.2.2 else 0)).sum = 0 - e.2.2 := by
      rw [Dt.sum_one (s := e.2.1) List.nodup_range (List.mem_range.mpr (h e List.mem_cons_self)) fun t _ ht => by rw [if_neg (Ne.symm ht)]; rfl, if_pos rfl]
    rw [e2]
    show _ = e.2.2 + totS es
    omega
structure RowsOk (R : List (List Tri)) (W : Int) : Prop where
  nn : ∀ es ∈ R, ∀ e ∈ es, 0 ≤ e.2.2
  num : ∀ es ∈ R, ∀ e ∈ es, e.2.1 < R.length
  tot : ∀ es ∈ R, totS es = W
  pos : 0 < W
theorem sys_zm {R : List (List Tri)} {W t : Int} {S : List Int} (h : RowsOk R W) (ht : W < t) : Dt.Zm R.length 0 (sysA t R S) := by
  have at' : ∀ i j, i < R.length → j < R.length → sysA t R S i j = (if i = j then t else 0) - partS (R.getD i []) j := fun i j _ hj => by unfold sysA; rw [if_pos hj]
  have mem : ∀ i, i < R.length → R.getD i [] ∈ R := fun i hi => by rw [getD_at (List.getElem?_eq_getElem hi)]; exact List.getElem_mem hi
  refine ⟨fun i j _ hi _ hj ne => ?_, fun i _ hi => ?_⟩
  · rw [at' i j hi hj, if_neg ne]
    have := (partS_le (j := j) (h.nn _ (mem i hi))).1
    omega
  · rw [Nat.sub_zero, Dt.rsum_zero]
    rw [Dt.sum_ext (g' := fun j => (if i = j then t else 0) - partS (R.getD i []) j) fun j hj => at' i j hi (List.mem_range.mp hj), Dt.sum_sub, partS_tot (h.num _ (mem i hi)), h.tot _ (mem i hi), Dt.sum_one (s := i) List.nodup_range (List.mem_range.mpr hi) fun u _ hu => if_neg (Ne.symm hu), if_pos rfl]
    omega
theorem sys_le {R : List (List Tri)} {W t : Int} {S : List Int} {M : Nat} (h : RowsOk R W) (ht : 0 ≤ t) (hM : t + W ≤ M) (i j : Nat) (hj : j < R.length) : (sysA t R S i j).natAbs ≤ M := by
  unfold sysA
  rw [if_pos hj]
  have hp := h.pos
  by_cases hi : i < R.length
  · have mem : R.getD i [] ∈ R := by rw [getD_at (List.getElem?_eq_getElem hi)]; exact List.getElem_mem hi
    obtain ⟨p1, p2⟩ := partS_le (j := j) (h.nn _ mem)
    rw [h.tot _ mem] at p2
    split <;> omega
  · have : R.getD i [] = [] := by rw [List.getD_eq_getElem?_getD, List.getElem?_eq_none (by omega)]; rfl
    rw [this, if_neg (by omega)]
    show ((0 : Int) - partS [] j).natAbs ≤ M
    rw [show partS [] j = 0 from rfl]
    omega
theorem sys_sum {R : List (List Tri)} {t : Int} {S : List Int} {N : Nat} (h : ∀ s ∈ S, s.natAbs ≤ N) (i : Nat) : (sysA t R S i R.length).natAbs ≤ N := by
  unfold sysA
  rw [if_neg (Nat.lt_irrefl _), if_pos rfl]
  by_cases hi : i < S.length
  · rw [getD_at (List.getElem?_eq_getElem hi)]; exact h _ (List.getElem_mem hi)
  · rw [List.getD_eq_getElem?_getD, List.getElem?_eq_none (by omega)]; exact Nat.zero_le _
theorem sys_all {R : List (List Tri)} {W t : Int} {S : List Int} {M N : Nat} (h : RowsOk R W) (ht : 0 ≤ t) (hM : t + W ≤ M) (hS : ∀ s ∈ S, s.natAbs ≤ N) (hMN : M ≤ N) (i j : Nat) : (sysA t R S i j).natAbs ≤ N := by
  by_cases c : j < R.length
  · exact Nat.le_trans (sys_le h ht hM i j c) hMN
  by_cases d : j = R.length
  · subst d; exact sys_sum hS i
  · unfold sysA
    rw [if_neg c, if_neg d]; exact Nat.zero_le _
theorem dfac_le : ∀ n, n ≤ 6 → Dt.dfac n ≤ 2 ^ 10 := by decide
theorem pow_le' {a n : Nat} (h : n ≤ 6) (k : Nat) (hk : a * 6 ≤ k) : (2 ^ a) ^ n ≤ 2 ^ k := by
  rw [← Nat.pow_mul]
  exact Nat.pow_le_pow_right (by decide) (Nat.le_trans (Nat.mul_le_mul_left a h) hk)
theorem dbd_pow {a : Nat} : ∀ n, n ≤ 8 → Dt.dbd (2 ^ a) n ≤ 2 ^ (n * (a + 3))
  | 0, _ => by show 1 ≤ 2 ^ (0 * (a + 3)); rw [Nat.zero_mul]; exact Nat.le_refl 1
  | n + 1, h => by
    have ih := dbd_pow (a := a) n (by omega)
    show (n + 1) * (2 ^ a * Dt.dbd (2 ^ a) n) ≤ _
    have h8 : n + 1 ≤ 2 ^ 3 := by omega
    have := Nat.mul_le_mul h8 (Nat.mul_le_mul (Nat.le_refl (2 ^ a)) ih)
    rw [← Nat.pow_add, ← Nat.pow_add] at this
    rw [show (n + 1) * (a + 3) = 3 + (a + n * (a + 3)) by rw [Nat.add_mul]; omega]
    exact this
/-- the two rules of the solver, by one bound -/
theorem sys_8000 {A : Nat → Nat → Int} {n a : Nat} (h : ∀ i j, (A i j).natAbs ≤ 2 ^ a) (hn : n ≤ 6) (ha : a ≤ 1100) : (∀ k i j, k ≤ n → (Dt.mS A k i j).natAbs < 2 ^ 8000) ∧ ∀ k, k ≤ n → (Dt.md A k).natAbs < 2 ^ 8000 := by
  have up : ∀ m, m ≤ 7 → 2 ^ (m * (a + 3)) < 2 ^ 8000 := fun m hm => Nat.pow_lt_pow_right (by decide) (Nat.lt_of_le_of_lt (Nat.mul_le_mul hm (Nat.add_le_add_right ha 3)) (by decide))
  exact ⟨fun k i j hk => Nat.lt_of_le_of_lt (Nat.le_trans (Dt.mS_le h (Nat.one_le_two_pow) k i j) (dbd_pow (k + 1) (by omega))) (up _ (by omega)),
    fun k hk => Nat.lt_of_le_of_lt (Nat.le_trans (Dt.md_le h k) (dbd_pow k (by omega))) (up _ (by omega))⟩
theorem md_pow {A : Nat → Nat → Int} {n a : Nat} (h : ∀ i j, j < n → (A i j).natAbs ≤ 2 ^ a) (hn : n ≤ 6) : (Dt.md A n).natAbs ≤ 2 ^ (10 + a * 6) := by
  refine Nat.le_trans (Dt.md_leB h) ?_
  rw [Nat.pow_add]
  exact Nat.mul_le_mul (dfac_le n hn) (pow_le' hn _ (Nat.le_refl _))
theorem mS_pow {A : Nat → Nat → Int} {n a c t : Nat} (h : ∀ i j, j < n → (A i j).natAbs ≤ 2 ^ a) (hr : ∀ i, (A i n).natAbs ≤ 2 ^ c) (hac : a ≤ c) (hn : n ≤ 6) (ht : t < n) : (Dt.mS A n t n).natAbs ≤ 2 ^ (10 + (a * 5 + c)) := by
  refine Nat.le_trans (Dt.mS_leB h hr (Nat.pow_le_pow_right (by decide) hac) ht) ?_
  rw [Nat.pow_add 2 10, Nat.pow_add 2 (a * 5)]
  refine Nat.mul_le_mul (dfac_le n hn) (Nat.mul_le_mul_right _ ?_)
  rw [← Nat.pow_mul]
  exact Nat.pow_le_pow_right (by decide) (Nat.mul_le_mul_left a (by omega))
/-! ### by a book's rows -/
abbrev rowsR (ns : List Str) (Rw : List (List Ent)) : List (List Tri) := Rw.map (triS ns (wholeS Rw))
abbrev mA1 (b : Int) (ns : List Str) (Rw : List (List Ent)) : Nat → Nat → Int := sysA (b * (wholeS Rw : Nat)) (rowsR ns Rw) ((rowsR ns Rw).map meanS)
def topsS (b : Int) (ns : List Str) (Rw : List (List Ent)) : List Int := (List.range (rowsR ns Rw).length).map fun t => Dt.mS (mA1 b ns Rw) (rowsR ns Rw).length t (rowsR ns Rw).length
def botS (b : Int) (ns : List Str) (Rw : List (List Ent)) : Int := Dt.md (mA1 b ns Rw) (rowsR ns Rw).length
abbrev mA2 (b : Int) (ns : List Str) (Rw : List (List Ent)) : Nat → Nat → Int := sysA (b * b * (wholeS Rw : Nat)) (rowsR ns Rw) ((rowsR ns Rw).map (sqS (topsS b ns Rw) (botS b ns Rw)))
def sqrsS (b : Int) (ns : List Str) (Rw : List (List Ent)) : List Int := (List.range (rowsR ns Rw).length).map fun t => Dt.mS (mA2 b ns Rw) (rowsR ns Rw).length t (rowsR ns Rw).length
def sizeS (b : Int) (ns : List Str) (Rw : List (List Ent)) : Int := Dt.md (mA2 b ns Rw) (rowsR ns Rw).length * botS b ns Rw
structure BkOk (b : Int) (ns : List Str) (Rw : List (List Ent)) (B : Nat) : Prop where
  ent : EntOk b ns Rw B
  b2 : 2 ≤ b
  b10 : b ≤ 10
  len : Rw.length ≤ 6
  nlen : ns.length = Rw.length
  B36 : B < 2 ^ 36
  one : ∀ es ∈ Rw, totS (triS ns (wholeS Rw) es) = (wholeS Rw : Nat)
section
variable {b : Int} {ns : List Str} {Rw : List (List Ent)} {B : Nat}
theorem whole_dv (h : EntOk b ns Rw B) : wholeS Rw ∣ B := lcm_dv _ 1 B (Nat.one_dvd _) fun s hs => by
  obtain ⟨es, g1, e, g2, rfl⟩ := mem_allS hs
  exact ((h.row es g1).2 e g2).2.2.2.2.2.2.2
theorem whole_le (h : EntOk b ns Rw B) : 0 < wholeS Rw ∧ wholeS Rw ≤ B := ⟨Nat.pos_of_dvd_of_pos (whole_dv h) h.pos, Nat.le_of_dvd h.pos (whole_dv h)⟩
theorem rowsR_len : (rowsR ns Rw).length = Rw.length := List.length_map _
theorem BkOk.rows (h : BkOk b ns Rw B) : RowsOk (rowsR ns Rw) (wholeS Rw : Nat) := by
  have w := (whole_le h.ent).1
  refine ⟨fun es hes e he => ?_, fun es hes e he => ?_, fun es hes => ?_, by omega⟩
  · obtain ⟨e0, g1, rfl⟩ := List.mem_map.mp hes
    obtain ⟨e1, g2, rfl⟩ := List.mem_map.mp he
    obtain ⟨_, _, _, p1, _, p2, _⟩ := (h.ent.row e0 g1).2 e1 g2
    exact Int.mul_nonneg (Int.le_of_lt p1) (Int.ediv_nonneg (Int.natCast_nonneg _) (Int.le_of_lt p2))
  · obtain ⟨e0, g1, rfl⟩ := List.mem_map.mp hes
    obtain ⟨e1, g2, rfl⟩ := List.mem_map.mp he
    rw [rowsR_len, ← h.nlen]
    exact List.idxOf_lt_length_iff.mpr ((h.ent.row e0 g1).2 e1 g2).2.2.1
  · obtain ⟨e0, g1, rfl⟩ := List.mem_map.mp hes
    exact h.one e0 g1
theorem BkOk.dig (h : BkOk b ns Rw B) {es : List Tri} (hes : es ∈ rowsR ns Rw) {e : Tri} (he : e ∈ es) : 0 ≤ e.1 ∧ e.1 ≤ 9 := by
  obtain ⟨e0, g1, rfl⟩ := List.mem_map.mp hes
  obtain ⟨e1, g2, rfl⟩ := List.mem_map.mp he
  have := (h.ent.row e0 g1).2 e1 g2
  have := h.b10
  exact ⟨by show 0 ≤ e1.1; omega, by show e1.1 ≤ 9; omega⟩
/-- a sum over a row, each part no more than c times its share -/
theorem row_sum_le {g : Tri → Int} {c : Nat} : ∀ {es : List Tri}, (∀ e ∈ es, 0 ≤ e.2.2) → (∀ e ∈ es, (g e).natAbs ≤ c) → ((es.map fun e => e.2.2 * g e).sum).natAbs ≤ (totS es).toNat * c
  | [], _, _ => by simp
  | e :: es, h1, h2 => by
    have ih := row_sum_le (g := g) (c := c) (es := es) (fun x hx => h1 x (List.mem_cons_of_mem _ hx)) fun x hx => h2 x (List.mem_cons_of_mem _ hx)
    have p := h1 e List.mem_cons_self
    have q := h2 e List.mem_cons_self
    have t0 : 0 ≤ totS es := by have := partS_le (es := es) (j := 0) fun x hx => h1 x (List.mem_cons_of_mem _ hx); omega
    rw [List.map_cons, List.sum_cons]
    have e1 : totS (e :: es) = e.2.2 + totS es := rfl
    rw [e1, show (e.2.2 + totS es).toNat = e.2.2.natAbs + (totS es).toNat by omega, Nat.add_mul]
    refine Nat.le_trans (Int.natAbs_add_le _ _) (Nat.add_le_add ?_ ih)
    rw [Int.natAbs_mul]
    exact Nat.mul_le_mul_left _ q
theorem BkOk.small (h : BkOk b ns Rw B) : SmallR (rowsR ns Rw) := by
  have w := whole_le h.ent
  refine ⟨by rw [rowsR_len]; have := h.len; omega, fun es hes => ⟨?_, fun e he => ⟨?_, ?_⟩⟩⟩
  · obtain ⟨e0, g1, rfl⟩ := List.mem_map.mp hes
    have := (h.ent.row e0 g1).1
    show (triS _ _ _).length ≤ 100
    unfold triS
    rw [List.length_map]; omega
  · have := h.dig hes he
    exact Nat.lt_of_le_of_lt (show e.1.natAbs ≤ 9 by omega) (by decide)
  · have r := h.rows
    have h1 := r.nn es hes
    have h2 := le_tot h1 e he
    rw [r.tot es hes] at h2
    have h3 := h1 e he
    have := h.B36
    refine Nat.lt_of_le_of_lt (show e.2.2.natAbs ≤ wholeS Rw by omega) (Nat.lt_of_lt_of_le (Nat.lt_of_le_of_lt w.2 this) (Nat.pow_le_pow_right (by decide) (by decide)))
theorem BkOk.M1 (h : BkOk b ns Rw B) : (∀ i j, j < (rowsR ns Rw).length → (mA1 b ns Rw i j).natAbs ≤ 2 ^ 40) ∧ ∀ i, (mA1 b ns Rw i (rowsR ns Rw).length).natAbs ≤ 2 ^ 40 := by
  have w := whole_le h.ent
  have r := h.rows
  have B36 := h.B36
  have b2 := h.b2
  have b10 := h.b10
  generalize hW : wholeS Rw = W at r w
  have bw : b * (W : Nat) ≤ 10 * (W : Int) := Int.mul_le_mul_of_nonneg_right b10 (by omega)
  have bw0 : 0 ≤ b * (W : Nat) := Int.mul_nonneg (by omega) (by omega)
  have k36 : W < 2 ^ 36 := by omega
  unfold mA1
  rw [hW]
  refine ⟨fun i j hj => sys_le r bw0 (by omega) i j hj, fun i => sys_sum (fun s hs => ?_) i⟩
  obtain ⟨es, hes, rfl⟩ := List.mem_map.mp hs
  have := row_sum_le (g := fun e => e.1) (c := 9) (r.nn es hes) fun e he => by have := h.dig hes he; omega
  rw [r.tot es hes] at this
  unfold meanS
  refine Nat.le_trans this ?_
  omega
theorem BkOk.tops (h : BkOk b ns Rw B) : (∀ x ∈ topsS b ns Rw, x.natAbs ≤ 2 ^ 250) ∧ (botS b ns Rw).natAbs ≤ 2 ^ 250 ∧ 0 < botS b ns Rw := by
  have n6 : (rowsR ns Rw).length ≤ 6 := by rw [rowsR_len]; exact h.len
  have M := h.M1
  refine ⟨fun x hx => ?_, md_pow M.1 n6, ?_⟩
  · obtain ⟨t, ht, rfl⟩ := List.mem_map.mp hx
    exact mS_pow M.1 M.2 (Nat.le_refl _) n6 (List.mem_range.mp ht)
  · have w := whole_le h.ent
    have b2 := h.b2
    have z := sys_zm (S := (rowsR ns Rw).map meanS) h.rows (t := b * (wholeS Rw : Nat)) (by
      have := Int.mul_le_mul_of_nonneg_right b2 (show (0 : Int) ≤ (wholeS Rw : Nat) by omega)
      omega)
    exact (z.all _ (Nat.le_refl _)).2.1
theorem BkOk.M2 (h : BkOk b ns Rw B) : (∀ i j, j < (rowsR ns Rw).length → (mA2 b ns Rw i j).natAbs ≤ 2 ^ 43) ∧ ∀ i, (mA2 b ns Rw i (rowsR ns Rw).length).natAbs ≤ 2 ^ 293 := by
  have w := whole_le h.ent
  have r := h.rows
  have B36 := h.B36
  have b2 := h.b2
  have b10 := h.b10
  obtain ⟨t1, t2, t3⟩ := h.tops
  generalize hW : wholeS Rw = W at r w
  have bb : b * b ≤ 10 * 10 := Int.mul_le_mul b10 b10 (by omega) (by omega)
  have bb0 : 0 ≤ b * b := Int.mul_nonneg (by omega) (by omega)
  have bw : b * b * (W : Nat) ≤ 10 * 10 * (W : Int) := Int.mul_le_mul_of_nonneg_right bb (by omega)
  have bw0 : 0 ≤ b * b * (W : Nat) := Int.mul_nonneg bb0 (by omega)
  have k36 : W < 2 ^ 36 := by omega
  unfold mA2
  rw [hW]
  refine ⟨fun i j hj => sys_le r bw0 (by omega) i j hj, fun i => sys_sum (fun s hs => ?_) i⟩
  obtain ⟨es, hes, rfl⟩ := List.mem_map.mp hs
  have := row_sum_le (g := fun e => e.1 * e.1 * botS b ns Rw + 2 * e.1 * (topsS b ns Rw).getD e.2.1 0) (c := 2 ^ 257) (r.nn es hes) fun e he => by
    obtain ⟨d1, d2⟩ := h.dig hes he
    have q1 : ((e.1 * e.1 * botS b ns Rw).natAbs) ≤ 81 * 2 ^ 250 := by
      rw [Int.natAbs_mul, Int.natAbs_mul]
      exact Nat.mul_le_mul (Nat.mul_le_mul (show e.1.natAbs ≤ 9 by omega) (show e.1.natAbs ≤ 9 by omega)) t2
    have q2 : ((2 * e.1 * (topsS b ns Rw).getD e.2.1 0).natAbs) ≤ 18 * 2 ^ 250 := by
      rw [Int.natAbs_mul, Int.natAbs_mul]
      refine Nat.mul_le_mul (Nat.mul_le_mul (Nat.le_refl 2) (show e.1.natAbs ≤ 9 by omega)) ?_
      by_cases c : e.2.1 < (topsS b ns Rw).length
      · rw [getD_at (List.getElem?_eq_getElem c)]; exact t1 _ (List.getElem_mem c)
      · rw [List.getD_eq_getElem?_getD, List.getElem?_eq_none (by omega)]; exact Nat.zero_le _
    have q3 := Int.natAbs_add_le (e.1 * e.1 * botS b ns Rw) (2 * e.1 * (topsS b ns Rw).getD e.2.1 0)
    have q4 : 81 * 2 ^ 250 + 18 * 2 ^ 250 ≤ 2 ^ 257 := by decide
    omega
  rw [r.tot es hes] at this
  unfold sqS
  refine Nat.le_trans this ?_
  rw [show (293 : Nat) = 36 + 257 by decide, Nat.pow_add]
  exact Nat.mul_le_mul (by omega) (Nat.le_refl _)
theorem BkOk.sqrs (h : BkOk b ns Rw B) : (∀ x ∈ sqrsS b ns Rw, x.natAbs ≤ 2 ^ 518) ∧ (sizeS b ns Rw).natAbs ≤ 2 ^ 518 ∧ 0 < sizeS b ns Rw := by
  have n6 : (rowsR ns Rw).length ≤ 6 := by rw [rowsR_len]; exact h.len
  have M := h.M2
  obtain ⟨t1, t2, t3⟩ := h.tops
  refine ⟨fun x hx => ?_, ?_, ?_⟩
  · obtain ⟨t, ht, rfl⟩ := List.mem_map.mp hx
    exact mS_pow M.1 M.2 (by decide) n6 (List.mem_range.mp ht)
  · unfold sizeS
    rw [Int.natAbs_mul, show (518 : Nat) = (10 + 43 * 6) + 250 by decide, Nat.pow_add]
    exact Nat.mul_le_mul (md_pow M.1 n6) t2
  · have w := whole_le h.ent
    have b2 := h.b2
    have z := sys_zm (S := (rowsR ns Rw).map (sqS (topsS b ns Rw) (botS b ns Rw))) h.rows (t := b * b * (wholeS Rw : Nat)) (by
      have h2 := Int.mul_le_mul b2 b2 (by omega) (by omega)
      have := Int.mul_le_mul_of_nonneg_right h2 (show (0 : Int) ≤ (wholeS Rw : Nat) by omega)
      omega)
    exact Int.mul_pos (z.all _ (Nat.le_refl _)).2.1 t3
end
end My

set_option linter.all false
namespace My
open PySem PySem.Spec PyProof.Rows L2
abbrev sNum : Stmt := topS 12
abbrev sInl : Stmt := topS 3
/-! ### mean and spread of a name -/
def lowV (a d : Int) : HO := .tup [.int (a / gL a d), .int (d / gL a d)]
def spNum (w : World) : Sp := fun vs H Q _ => ∃ (bk : Addr) (b : Int) (ns : List Str) (Rw : List (List Ent)) (x : Str), vs = [.ref bk, .str x] ∧ ShB w H bk b ns Rw ∧ ns.length ≤ 1000 ∧ x ∈ ns ∧ ∀ H', Same H H' → Q (.int (ns.idxOf x : Nat)) H'
def spInl : Sp := fun vs H Q _ => ∃ a d : Int, vs = [.int a, .int d] ∧ 0 < d ∧ d.natAbs < 2 ^ 8000 ∧ ∀ q, H q = none → Q (.ref q) (upd H q (lowV a d))
def mTop (b : Int) (ns : List Str) (Rw : List (List Ent)) (x : Str) : Int := (topsS b ns Rw).getD (ns.idxOf x) 0
def sTop (b : Int) (ns : List Str) (Rw : List (List Ent)) (x : Str) : Int := (sqrsS b ns Rw).getD (ns.idxOf x) 0 * botS b ns Rw * botS b ns Rw - mTop b ns Rw x * mTop b ns Rw x * sizeS b ns Rw
def sBot (b : Int) (ns : List Str) (Rw : List (List Ent)) : Int := sizeS b ns Rw * botS b ns Rw * botS b ns Rw
def spMean (w : World) : Sp := fun vs H Q _ => ∃ (bk : Addr) (b : Int) (ns : List Str) (Rw : List (List Ent)) (B : Nat) (x : Str), vs = [.ref bk, .str x] ∧ ShB w H bk b ns Rw ∧ BkOk b ns Rw B ∧ x ∈ ns ∧ ∀ (T : Addr) (H' : Hp), Same H H' → H T = none → H' T = some (lowV (mTop b ns Rw x) (botS b ns Rw)) → Q (.ref T) H'
def spSpr (w : World) : Sp := fun vs H Q _ => ∃ (bk : Addr) (b : Int) (ns : List Str) (Rw : List (List Ent)) (B : Nat) (x : Str), vs = [.ref bk, .str x] ∧ ShB w H bk b ns Rw ∧ BkOk b ns Rw B ∧ x ∈ ns ∧ ∀ (T : Addr) (H' : Hp), Same H H' → H T = none → H' T = some (lowV (sTop b ns Rw x) (sBot b ns Rw)) → Q (.ref T) H'
theorem lt_of_le {x : Int} {a b : Nat} (h : x.natAbs ≤ 2 ^ a) (k : a < b) : x.natAbs < 2 ^ b := Nat.lt_of_le_of_lt h (Nat.pow_lt_pow_right (by decide) k)
theorem sys_pow {R : List (List Tri)} {t : Int} {S : List Int} {a c : Nat} (h1 : ∀ i j, j < R.length → (sysA t R S i j).natAbs ≤ 2 ^ a) (h2 : ∀ i, (sysA t R S i R.length).natAbs ≤ 2 ^ c) (hac : a ≤ c) (i j : Nat) : (sysA t R S i j).natAbs ≤ 2 ^ c := by
  by_cases d : j < R.length
  · exact Nat.le_trans (h1 i j d) (Nat.pow_le_pow_right (by decide) hac)
  by_cases e : j = R.length
  · subst e; exact h2 i
  · unfold sysA
    rw [if_neg d, if_neg e]; exact Nat.zero_le _
theorem BkOk.sys1 {b : Int} {ns : List Str} {Rw : List (List Ent)} {B : Nat} (h : BkOk b ns Rw B) : Dt.Zm (rowsR ns Rw).length 0 (mA1 b ns Rw) ∧ (∀ k i j, k ≤ (rowsR ns Rw).length → (Dt.mS (mA1 b ns Rw) k i j).natAbs < 2 ^ 8000) ∧ ∀ k, k ≤ (rowsR ns Rw).length → (Dt.md (mA1 b ns Rw) k).natAbs < 2 ^ 8000 := by
  have w := whole_le h.ent
  have b2 := h.b2
  obtain ⟨m1, m2⟩ := h.M1
  refine ⟨sys_zm h.rows ?_, sys_8000 (a := 40) (sys_pow m1 m2 (Nat.le_refl _)) (by rw [rowsR_len]; exact h.len) (by decide)⟩
  have := Int.mul_le_mul_of_nonneg_right b2 (show (0 : Int) ≤ (wholeS Rw : Nat) by omega)
  omega
theorem BkOk.sys2 {b : Int} {ns : List Str} {Rw : List (List Ent)} {B : Nat} (h : BkOk b ns Rw B) : Dt.Zm (rowsR ns Rw).length 0 (mA2 b ns Rw) ∧ (∀ k i j, k ≤ (rowsR ns Rw).length → (Dt.mS (mA2 b ns Rw) k i j).natAbs < 2 ^ 8000) ∧ ∀ k, k ≤ (rowsR ns Rw).length → (Dt.md (mA2 b ns Rw) k).natAbs < 2 ^ 8000 := by
  have w := whole_le h.ent
  have b2 := h.b2
  obtain ⟨m1, m2⟩ := h.M2
  refine ⟨sys_zm h.rows ?_, sys_8000 (a := 293) (sys_pow m1 m2 (by decide)) (by rw [rowsR_len]; exact h.len) (by decide)⟩
  have h2 := Int.mul_le_mul b2 b2 (by omega) (by omega)
  have := Int.mul_le_mul_of_nonneg_right h2 (show (0 : Int) ≤ (wholeS Rw : Nat) by omega)
  omega
theorem BkOk.nums {b : Int} {ns : List Str} {Rw : List (List Ent)} {B : Nat} (h : BkOk b ns Rw B) : b.natAbs < 2 ^ 64 ∧ ((wholeS Rw : Nat) : Int).natAbs < 2 ^ 8000 ∧ ns.length ≤ 1000 := by
  have b2 := h.b2
  have b10 := h.b10
  have := h.B36
  have := (whole_le h.ent).2
  have := h.nlen
  have := h.len
  exact ⟨Nat.lt_of_le_of_lt (show b.natAbs ≤ 10 by omega) (by decide), Nat.lt_of_lt_of_le (show ((wholeS Rw : Nat) : Int).natAbs < 2 ^ 36 by omega) (Nat.pow_le_pow_right (by decide) (by decide)), by omega⟩
theorem tops_at {b : Int} {ns : List Str} {Rw : List (List Ent)} {x : Str} {l : List Int} {B : Nat} (h : BkOk b ns Rw B) (hx : x ∈ ns) (hl : l.length = (rowsR ns Rw).length) : (l.map V.int)[ns.idxOf x]? = some (.int (l.getD (ns.idxOf x) 0)) := by
  have hi := List.idxOf_lt_length_iff.mpr hx
  rw [h.nlen, ← rowsR_len (ns := ns), ← hl] at hi
  rw [List.getElem?_map, List.getElem?_eq_getElem hi, getD_at (List.getElem?_eq_getElem hi)]; rfl
theorem topsS_len (b : Int) (ns : List Str) (Rw : List (List Ent)) : (topsS b ns Rw).length = (rowsR ns Rw).length := by unfold topsS; rw [List.length_map, List.length_range]
theorem sqrsS_len (b : Int) (ns : List Str) (Rw : List (List Ent)) : (sqrsS b ns Rw).length = (rowsR ns Rw).length := by unfold sqrsS; rw [List.length_map, List.length_range]
theorem getD_le {l : List Int} {N : Nat} (h : ∀ x ∈ l, x.natAbs ≤ N) (i : Nat) : (l.getD i 0).natAbs ≤ N := by
  by_cases c : i < l.length
  · rw [getD_at (List.getElem?_eq_getElem c)]; exact h _ (List.getElem_mem c)
  · rw [List.getD_eq_getElem?_getD, List.getElem?_eq_none (by omega)]; exact Nat.zero_le _
section
variable {P : Program} {w : World} {K : PySem.W.Frag} {mg : Str → Option Value} {base : Heap}
theorem scNum : FnScope ["book", "name"] ["book", "name"] (defScope sNum) := ⟨rfl, rfl, rfl, by decide +kernel, rfl, by decide +kernel, by decide +kernel⟩
theorem scInl : FnScope ["top", "bottom", "common"] ["top", "bottom"] (defScope sInl) := ⟨rfl, rfl, rfl, by decide +kernel, rfl, by decide +kernel, by decide +kernel⟩
theorem ok_num {f : Addr} {fd : FuncData} (F : Fun K "_number_of" "_number_of" sNum f fd) (T : TgS mg) : FnOk P w K mg base CX0 1 f fd ["book", "name"] (spNum w) := by
  refine F.ok scNum (fun vs H Q E h => ?_) (fun cdv A outer s H vs Q E hr h => ?_)
  · obtain ⟨bk, b, ns, Rw, x, rfl, _⟩ := h
    rfl
  · obtain ⟨bk, b, ns, Rw, x, rfl, SB, l10, hx, k⟩ := h
    refine ⟨_, (pss_one (ps_ret (pe_bm PySem.F.plainAttrs_list PySem.F.slot_list_index PySem.F.type_list_index mt_index (pe_callTy (call_listF rfl) (by rfl) T.list boot_list (pa_cons (pe_ix ix_tup (pv 0) pe_int (fun _ _ => rfl)) pa_nil)) (pa_cons (pv 1) pa_nil)))), ?_⟩
    obtain ⟨rr, kvs, qs, h1, h2, h3, h4, h5, h6⟩ := SB.ex
    refine ⟨_, rfl, bk, _, 1, _, rfl, rfl, SqT.of h1, rfl, rr, kvs, rfl, h2, fun L nL => ?_⟩
    have hi := List.idxOf_lt_length_iff.mpr hx
    have hg : ns[ns.idxOf x]? = some x := by rw [List.getElem?_eq_getElem hi, List.getElem_idxOf]
    refine ⟨.inl ⟨rfl, _, SqL.of upd_same⟩, _, rfl, L, _, _, ns.idxOf x, .str x, rfl, rfl, SqL.of upd_same, rfl, ?_, ?_, ?_, ?_, k _ (same_upd nL)⟩
    · rw [h3]
      exact List.all_eq_true.mpr fun v hv => by obtain ⟨y, _, rfl⟩ := List.mem_map.mp hv; rfl
    · rw [h3, List.getElem?_map, hg]; rfl
    · show (x == x) = true
      exact beq_self_eq_true x
    · intro m z hm hz
      rw [h3, List.getElem?_map] at hz
      obtain ⟨y, hy, rfl⟩ := Option.map_eq_some_iff.mp hz
      show (y == x) = false
      rw [beq_eq_false_iff_ne]
      intro e
      subst e
      have hm2 := (List.getElem?_eq_some_iff.mp hy).1
      have := (List.getElem?_inj hm2 SB.nod).mp (hy.trans hg.symm)
      omega
theorem ok_inl {f : Addr} {fd : FuncData} (F : Fun K "in_lowest_terms" "in_lowest_terms" sInl f fd) (gG : mg "gcd" = some (.builtin "math.gcd")) : FnOk P w K mg base CX0 1 f fd ["top", "bottom"] spInl := by
  refine F.ok scInl (fun vs H Q E h => ?_) (fun cdv A outer s H vs Q E hr h => ?_)
  · obtain ⟨a, b, rfl, _⟩ := h
    rfl
  · obtain ⟨a, b, rfl, b0, bb, k⟩ := h
    refine ⟨_, (pss_cons (ps_set (i := 2) scInl.nd rfl (Or.inl rfl) (pe_callBfun cr_gcd (by rfl) gG (pa_cons (pv 0) (pa_cons (pv 1) pa_nil))))
      (pss_one (ps_ret (pe_tup (pa_cons (pe_op op_fdivW (pv 0) (pv 2)) (pa_cons (pe_op op_fdivW (pv 1) (pv 2)) pa_nil)))))), ?_⟩
    have e : ((Nat.gcd a.natAbs b.natAbs : Nat) : Int) = gL a b := by unfold gL; rw [Nat.gcd_comm]
    have gp : 0 < Nat.gcd a.natAbs b.natAbs := Nat.gcd_pos_of_pos_right _ (by omega)
    have gb : Nat.gcd a.natAbs b.natAbs ≤ b.natAbs := Nat.le_of_dvd (by omega) (Nat.gcd_dvd_right _ _)
    have wd : ∀ z : Int, CDivW z ((Nat.gcd a.natAbs b.natAbs : Nat) : Int) := fun z => wide_div (b := 8000) (by omega) (Nat.lt_of_le_of_lt (by omega) bb) (by decide) (by decide)
    refine ⟨_, rfl, _, rfl, a, b, rfl, _, rfl, _, rfl, _, _, rfl, rfl, wd _, _, rfl, _, rfl, _, _, rfl, rfl, wd _, (by show 2 ≤ sizeLine; rw [sizeLine_eq]; decide), fun q nq => ?_⟩
    have kq := k q nq
    unfold lowV at kq
    rw [← e] at kq
    exact kq
end
end My

set_option linter.all false
namespace My
open PySem PySem.Spec PyProof.Rows L2
abbrev sAdd : Stmt := topS 30
abbrev sLso : Stmt := topS 31
/-! ### fractions in lowest terms -/
def lowP (a d : Int) : Int × Int := (a / gL a d, d / gL a d)
theorem lowV_eq (a d : Int) : lowV a d = .tup [.int (lowP a d).1, .int (lowP a d).2] := rfl
theorem gL_pos {a d : Int} (h : 0 < d) : 0 < gL a d := by
  unfold gL
  have : 0 < Nat.gcd d.natAbs a.natAbs := Nat.gcd_pos_of_pos_left _ (by omega)
  omega
theorem gL_dvd {a d : Int} : gL a d ∣ a ∧ gL a d ∣ d := by
  unfold gL
  exact ⟨Int.ofNat_dvd_left.mpr (Nat.gcd_dvd_right _ _), Int.ofNat_dvd_left.mpr (Nat.gcd_dvd_left _ _)⟩
theorem low_mul {a d : Int} : (lowP a d).1 * gL a d = a ∧ (lowP a d).2 * gL a d = d := ⟨Int.ediv_mul_cancel gL_dvd.1, Int.ediv_mul_cancel gL_dvd.2⟩
theorem low_pos {a d : Int} (h : 0 < d) : 0 < (lowP a d).2 := by
  have := (low_mul (a := a) (d := d)).2
  have g := gL_pos (a := a) h
  rcases Int.lt_trichotomy (lowP a d).2 0 with c | c | c
  · have := Int.mul_neg_of_neg_of_pos c g; omega
  · rw [c] at this; omega
  · exact c
theorem low_cross {a d : Int} (h : 0 < d) : (lowP a d).1 * d = a * (lowP a d).2 := by
  obtain ⟨h1, h2⟩ := low_mul (a := a) (d := d)
  generalize (lowP a d).1 = x at h1 ⊢
  generalize (lowP a d).2 = y at h2 ⊢
  generalize gL a d = g at h1 h2
  rw [← h1, ← h2, Int.mul_assoc, Int.mul_comm g y]
theorem low_cop {a d : Int} (h : 0 < d) : Nat.gcd (lowP a d).1.natAbs (lowP a d).2.natAbs = 1 := by
  obtain ⟨h1, h2⟩ := low_mul (a := a) (d := d)
  have g := gL_pos (a := a) h
  have e1 : (lowP a d).1.natAbs * (gL a d).natAbs = a.natAbs := by rw [← Int.natAbs_mul, h1]
  have e2 : (lowP a d).2.natAbs * (gL a d).natAbs = d.natAbs := by rw [← Int.natAbs_mul, h2]
  have e3 : (gL a d).natAbs = Nat.gcd a.natAbs d.natAbs := by unfold gL; rw [Int.natAbs_natCast, Nat.gcd_comm]
  have e4 := Nat.gcd_mul_right (lowP a d).1.natAbs (gL a d).natAbs (lowP a d).2.natAbs
  rw [e1, e2, ← e3] at e4
  have gp : 0 < (gL a d).natAbs := by omega
  have : 1 * (gL a d).natAbs = Nat.gcd (lowP a d).1.natAbs (lowP a d).2.natAbs * (gL a d).natAbs := by omega
  exact (Nat.eq_of_mul_eq_mul_right gp this).symm
theorem cop_uniq {x y u v : Int} (hy : 0 < y) (hv : 0 < v) (c1 : Nat.gcd x.natAbs y.natAbs = 1) (c2 : Nat.gcd u.natAbs v.natAbs = 1) (e : x * v = u * y) : x = u ∧ y = v := by
  have e' : x.natAbs * v.natAbs = u.natAbs * y.natAbs := by rw [← Int.natAbs_mul, ← Int.natAbs_mul, e]
  have d1 : y.natAbs ∣ v.natAbs := Nat.Coprime.dvd_of_dvd_mul_left (k := y.natAbs) (m := x.natAbs) (show Nat.gcd _ _ = 1 by rw [Nat.gcd_comm]; exact c1) ⟨u.natAbs, by rw [e', Nat.mul_comm]⟩
  have d2 : v.natAbs ∣ y.natAbs := Nat.Coprime.dvd_of_dvd_mul_left (k := v.natAbs) (m := u.natAbs) (show Nat.gcd _ _ = 1 by rw [Nat.gcd_comm]; exact c2) ⟨x.natAbs, by rw [← e', Nat.mul_comm]⟩
  have d3 := Nat.dvd_antisymm d1 d2
  have yv : y = v := by omega
  subst yv
  exact ⟨Int.eq_of_mul_eq_mul_right (by omega) e, rfl⟩
/-- the lowest terms are told by the value -/
theorem low_eq {a d b e : Int} (hd : 0 < d) (he : 0 < e) (h : a * e = b * d) : lowP a d = lowP b e := by
  have q1 := low_cross (a := a) hd
  have q2 := low_cross (a := b) he
  have p1 := low_pos (a := a) hd
  have p2 := low_pos (a := b) he
  obtain ⟨h1, h2⟩ := cop_uniq p1 p2 (low_cop hd) (low_cop he) (by
    generalize (lowP a d).1 = x at q1 ⊢
    generalize (lowP a d).2 = y at q1 ⊢
    generalize (lowP b e).1 = u at q2 ⊢
    generalize (lowP b e).2 = v at q2 ⊢
    have de : d * e ≠ 0 := Int.mul_ne_zero (by omega) (by omega)
    refine Int.eq_of_mul_eq_mul_right de ?_
    have l : x * v * (d * e) = (x * d) * (v * e) := by ac_rfl
    have r : u * y * (d * e) = (u * e) * (y * d) := by ac_rfl
    have l2 : a * y * (v * e) = (a * e) * (y * v) := by ac_rfl
    have r2 : b * v * (y * d) = (b * d) * (y * v) := by ac_rfl
    rw [l, r, q1, q2, l2, r2, h])
  exact Prod.ext h1 h2
theorem low_le {a d : Int} (h : 0 < d) : (lowP a d).1.natAbs ≤ a.natAbs ∧ (lowP a d).2.natAbs ≤ d.natAbs := by
  obtain ⟨h1, h2⟩ := low_mul (a := a) (d := d)
  have g := gL_pos (a := a) h
  have gp : 1 ≤ (gL a d).natAbs := by omega
  have e1 : (lowP a d).1.natAbs * (gL a d).natAbs = a.natAbs := by rw [← Int.natAbs_mul, h1]
  have e2 : (lowP a d).2.natAbs * (gL a d).natAbs = d.natAbs := by rw [← Int.natAbs_mul, h2]
  exact ⟨by rw [← e1]; exact Nat.le_mul_of_pos_right _ gp, by rw [← e2]; exact Nat.le_mul_of_pos_right _ gp⟩
def spAdd : Sp := fun vs H Q _ => ∃ (p q : Addr) (a b c d : Int), vs = [.ref p, .ref q] ∧ H p = some (.tup [.int a, .int b]) ∧ H q = some (.tup [.int c, .int d]) ∧ 0 < b ∧ 0 < d ∧ a.natAbs < 2 ^ 2400 ∧ b.natAbs < 2 ^ 2400 ∧ c.natAbs < 2 ^ 4800 ∧ d.natAbs < 2 ^ 4800 ∧
  ∀ T, H T = none → Q (.ref T) (upd H T (lowV (a * d + c * b) (b * d)))
section
variable {P : Program} {w : World} {K : PySem.W.Frag} {mg : Str → Option Value} {base : Heap}
theorem scAdd : FnScope ["one", "other"] ["one", "other"] (defScope sAdd) := ⟨rfl, rfl, rfl, by decide +kernel, rfl, by decide +kernel, by decide +kernel⟩
theorem ok_add {f fLo : Addr} {fd fdLo : FuncData} (F : Fun K "_law_added" "_law_added" sAdd f fd)
    (FLo : Fun K "_law_lowest" "_law_lowest" sLow fLo fdLo) (GLo : FnOk P w K mg base CX0 1 fLo fdLo ["top", "below"] spLow) (bLo : Binds K fdLo ["top", "below"] []) (gLo : mg "_law_lowest" = some (.ref fLo)) : FnOk P w K mg base CX0 2 f fd ["one", "other"] spAdd := by
  refine F.ok scAdd (fun vs H Q E h => ?_) (fun cdv A outer s H vs Q E hr h => ?_)
  · obtain ⟨p, q, a, b, c, d, rfl, _⟩ := h
    rfl
  · obtain ⟨p, q, a, b, c, d, rfl, h1, h2, b0, d0, la, lb, lc, ld, k⟩ := h
    have hr1 : Room 1 _ := hr.mono (by decide)
    refine ⟨_, (pss_one (ps_ret (pe_call GLo hr1 (by rfl) gLo FLo.kp bLo .nil pass0 (pa_cons (pe_op op_add (pe_op op_mulW (pe_ix ix_tup (pv 0) pe_int (fun _ _ => rfl)) (pe_ix ix_tup (pv 1) pe_int (fun _ _ => rfl))) (pe_op op_mulW (pe_ix ix_tup (pv 1) pe_int (fun _ _ => rfl)) (pe_ix ix_tup (pv 0) pe_int (fun _ _ => rfl)))) (pa_cons (pe_op op_mulW (pe_ix ix_tup (pv 0) pe_int (fun _ _ => rfl)) (pe_ix ix_tup (pv 1) pe_int (fun _ _ => rfl))) pa_nil))))), ?_⟩
    refine ⟨_, rfl, p, _, 0, _, rfl, rfl, SqT.of h1, rfl, _, rfl, q, _, 1, _, rfl, rfl, SqT.of h2, rfl, _, _, rfl, rfl, wide_mul la ld (by decide) (by decide) (by decide), ?_⟩
    refine ⟨_, rfl, q, _, 0, _, rfl, rfl, SqT.of h2, rfl, _, rfl, p, _, 1, _, rfl, rfl, SqT.of h1, rfl, _, _, rfl, rfl, wide_mul lc lb (by decide) (by decide) (by decide), _, _, rfl, rfl, ?_⟩
    refine ⟨_, rfl, p, _, 1, _, rfl, rfl, SqT.of h1, rfl, _, rfl, q, _, 1, _, rfl, rfl, SqT.of h2, rfl, _, _, rfl, rfl, wide_mul lb ld (by decide) (by decide) (by decide), ?_⟩
    exact ⟨_, _, rfl, Int.mul_pos b0 d0, nat_up (wide_lt lb ld) (by decide), k⟩
end
end My

set_option linter.all false
namespace My
open PySem PySem.Spec PyProof.Rows L2
/-! ### the law's own elimination -/
def dd (den : Int) (k i : Nat) : Int := if i < k then 1 else den
def eP (A : Nat → Nat → Int) (den : Int) (k i j : Nat) : Int × Int := lowP (Dt.mS A k i j) (Dt.md A k * dd den k i)
def pV (p : Int × Int) : HO := .tup [.int p.1, .int p.2]
def FrL (H : Hp) (q : Addr) (n : Nat) (f : Nat → Int × Int) : Prop := ∃ ts : List Addr, H q = some (.lst (ts.map V.ref)) ∧ ts.length = n ∧ ∀ (j : Nat) (t : Addr), ts[j]? = some t → H t = some (pV (f j))
theorem FrL.same {H H' : Hp} {q : Addr} {n : Nat} {f : Nat → Int × Int} (h : FrL H q n f) (s : Same H H') : FrL H' q n f := by
  obtain ⟨ts, h1, h2, h3⟩ := h
  exact ⟨ts, s _ _ h1, h2, fun j t g => s _ _ (h3 j t g)⟩
theorem pV_ne {H : Hp} {t a : Addr} {p : Int × Int} {l : List V} (h : H t = some (pV p)) (ha : H a = some (.lst l)) : t ≠ a := fun z => by
  rw [z, ha] at h; cases h
theorem FrL.put {H : Hp} {q a : Addr} {n : Nat} {f : Nat → Int × Int} {l : List V} {o : HO} (h : FrL H q n f) (ne : q ≠ a) (ha : H a = some (.lst l)) : FrL (upd H a o) q n f := by
  obtain ⟨ts, h1, h2, h3⟩ := h
  exact ⟨ts, by rw [upd_ne ne]; exact h1, h2, fun j t g => by rw [upd_ne (pV_ne (h3 j t g) ha)]; exact h3 j t g⟩
theorem FrL.cong {H : Hp} {q : Addr} {n : Nat} {f g : Nat → Int × Int} (h : FrL H q n f) (e : ∀ j, j < n → f j = g j) : FrL H q n g := by
  obtain ⟨ts, h1, h2, h3⟩ := h
  refine ⟨ts, h1, h2, fun j t z => ?_⟩
  have := (List.getElem?_eq_some_iff.mp z).1
  rw [← e j (by omega)]
  exact h3 j t z
theorem FrL.at {H : Hp} {q : Addr} {n : Nat} {f : Nat → Int × Int} (h : FrL H q n f) {j : Nat} (hj : j < n) : ∃ (ts : List Addr) (t : Addr), H q = some (.lst (ts.map V.ref)) ∧ ts.length = n ∧ atI (ts.map V.ref) (j : Int) = some (.ref t) ∧ H t = some (pV (f j)) := by
  obtain ⟨ts, h1, h2, h3⟩ := h
  have ht := List.getElem?_eq_getElem (show j < ts.length by omega)
  exact ⟨ts, ts[j], h1, h2, atI_nat (by rw [List.getElem?_map, ht]; rfl), h3 j _ ht⟩
/-- one of them set -/
theorem FrL.set {H : Hp} {q T : Addr} {n k : Nat} {f : Nat → Int × Int} {p : Int × Int} {ts : List Addr} (h1 : H q = some (.lst (ts.map V.ref))) (h2 : ts.length = n) (h3 : ∀ (j : Nat) (t : Addr), ts[j]? = some t → H t = some (pV (f j))) (hT : H T = some (pV p)) : FrL (upd H q (.lst ((ts.map V.ref).set k (.ref T)))) q n fun j => if j = k then p else f j := by
  refine ⟨ts.set k T, by rw [upd_same, List.map_set], by rw [List.length_set]; exact h2, fun j t z => ?_⟩
  by_cases c : j = k
  · subst c
    by_cases d : j < ts.length
    · rw [List.getElem?_set_self d] at z
      obtain rfl := Option.some.inj z
      dsimp only
      rw [upd_ne (pV_ne hT h1), if_pos rfl]; exact hT
    · rw [List.getElem?_eq_none (by rw [List.length_set]; omega)] at z; cases z
  · rw [List.getElem?_set_ne (Ne.symm c)] at z
    have := h3 j t z
    dsimp only
    rw [upd_ne (pV_ne this h1), if_neg c]; exact this
def RwA (H : Hp) (a b : Addr) (n : Nat) (F : Nat → Nat → Int × Int) : Prop := ∃ qs : List Addr, H a = some (.lst (qs.map V.ref)) ∧ qs.length = n ∧ ∀ (i : Nat) (q : Addr), qs[i]? = some q → q ≠ a ∧ q ≠ b ∧ FrL H q n (F i)
theorem RwA.same {H H' : Hp} {a b : Addr} {n : Nat} {F : Nat → Nat → Int × Int} (h : RwA H a b n F) (s : Same H H') : RwA H' a b n F := by
  obtain ⟨qs, h1, h2, h3⟩ := h
  exact ⟨qs, s _ _ h1, h2, fun i q g => ⟨(h3 i q g).1, (h3 i q g).2.1, (h3 i q g).2.2.same s⟩⟩
theorem RwA.putB {H : Hp} {a b : Addr} {n : Nat} {F : Nat → Nat → Int × Int} {l : List V} {o : HO} (h : RwA H a b n F) (ab : a ≠ b) (hb : H b = some (.lst l)) : RwA (upd H b o) a b n F := by
  obtain ⟨qs, h1, h2, h3⟩ := h
  exact ⟨qs, by rw [upd_ne ab]; exact h1, h2, fun i q g => ⟨(h3 i q g).1, (h3 i q g).2.1, (h3 i q g).2.2.put (h3 i q g).2.1 hb⟩⟩
theorem RwA.cong {H : Hp} {a b : Addr} {n : Nat} {F G : Nat → Nat → Int × Int} (h : RwA H a b n F) (e : ∀ i j, i < n → j < n → F i j = G i j) : RwA H a b n G := by
  obtain ⟨qs, h1, h2, h3⟩ := h
  refine ⟨qs, h1, h2, fun i q g => ⟨(h3 i q g).1, (h3 i q g).2.1, (h3 i q g).2.2.cong fun j hj => e i j ?_ hj⟩⟩
  have := (List.getElem?_eq_some_iff.mp g).1
  omega
theorem RwA.set {H : Hp} {a b D : Addr} {n k : Nat} {F : Nat → Nat → Int × Int} {g : Nat → Int × Int} {qs : List Addr} (h1 : H a = some (.lst (qs.map V.ref))) (h2 : qs.length = n) (h3 : ∀ (i : Nat) (q : Addr), qs[i]? = some q → q ≠ a ∧ q ≠ b ∧ FrL H q n (F i)) (hD : FrL H D n g) (Da : D ≠ a) (Db : D ≠ b) : RwA (upd H a (.lst ((qs.map V.ref).set k (.ref D)))) a b n fun i => if i = k then g else F i := by
  refine ⟨qs.set k D, by rw [upd_same, List.map_set], by rw [List.length_set]; exact h2, fun i q z => ?_⟩
  by_cases c : i = k
  · subst c
    by_cases d : i < qs.length
    · rw [List.getElem?_set_self d] at z
      obtain rfl := Option.some.inj z
      dsimp only
      rw [if_pos rfl]
      exact ⟨Da, Db, hD.put Da h1⟩
    · rw [List.getElem?_eq_none (by rw [List.length_set]; omega)] at z; cases z
  · rw [List.getElem?_set_ne (Ne.symm c)] at z
    obtain ⟨w1, w2, w3⟩ := h3 i q z
    dsimp only
    rw [if_neg c]
    exact ⟨w1, w2, w3.put w1 h1⟩
section
variable {A : Nat → Nat → Int} {den : Int} {n : Nat}
theorem dd_pos (h : 0 < den) (k i : Nat) : 0 < dd den k i := by unfold dd; split <;> omega
theorem eP_pos (h : 0 < den) {k i j : Nat} (hm : 0 < Dt.md A k) : 0 < (eP A den k i j).2 := low_pos (Int.mul_pos hm (dd_pos h k i))
theorem eP_cross (h : 0 < den) {k i j : Nat} (hm : 0 < Dt.md A k) : (eP A den k i j).1 * (Dt.md A k * dd den k i) = Dt.mS A k i j * (eP A den k i j).2 := low_cross (Int.mul_pos hm (dd_pos h k i))
/-- the pivot's row, by its pivot -/
theorem norm_eq (h : 0 < den) {k j : Nat} (hm : 0 < Dt.md A k) (hp : 0 < Dt.md A (k + 1)) (ht : 0 < (eP A den k k k).1) : lowP (1 * (eP A den k k j).1 * (eP A den k k k).2) ((eP A den k k j).2 * (eP A den k k k).1) = eP A den (k + 1) k j := by
  have c1 := eP_cross (i := k) (j := j) h hm
  have c2 := eP_cross (i := k) (j := k) h hm
  have p1 := eP_pos (i := k) (j := j) h hm
  have d1 : dd den (k + 1) k = 1 := if_pos (Nat.lt_succ_self k)
  have D0 : Dt.md A k * dd den k k ≠ 0 := Int.ne_of_gt (Int.mul_pos hm (dd_pos h k k))
  unfold eP at *
  refine low_eq (Int.mul_pos p1 ht) (by rw [d1, Int.mul_one]; exact hp) ?_
  rw [d1, Int.mul_one, Dt.mS_pivot, Dt.md_succ, Int.one_mul]
  generalize (lowP (Dt.mS A k k j) (Dt.md A k * dd den k k)).1 = x at c1 ⊢
  generalize (lowP (Dt.mS A k k j) (Dt.md A k * dd den k k)).2 = y at c1 ⊢
  generalize (lowP (Dt.mS A k k k) (Dt.md A k * dd den k k)).1 = t at c2 ⊢
  generalize (lowP (Dt.mS A k k k) (Dt.md A k * dd den k k)).2 = v at c2 ⊢
  generalize Dt.md A k * dd den k k = D at c1 c2 D0
  generalize Dt.mS A k k j = m at c1 ⊢
  generalize Dt.mS A k k k = p at c2 ⊢
  refine Int.eq_of_mul_eq_mul_right D0 ?_
  have l : x * v * p * D = (x * D) * (p * v) := by ac_rfl
  have r : m * (y * t) * D = (m * y) * (t * D) := by ac_rfl
  rw [l, r, c1, c2]
/-- a row less its part of the pivot's -/
theorem elim_eq (h : 0 < den) {k i j : Nat} (ne : i ≠ k) (C : Dt.Cmb A k) (hm : 0 < Dt.md A k) (hp : 0 < Dt.md A (k + 1)) : lowP ((eP A den k i j).1 * ((eP A den k i k).2 * (eP A den (k + 1) k j).2) + (0 - (eP A den k i k).1) * (eP A den (k + 1) k j).1 * (eP A den k i j).2) ((eP A den k i j).2 * ((eP A den k i k).2 * (eP A den (k + 1) k j).2)) = eP A den (k + 1) i j := by
  have c1 := eP_cross (i := i) (j := j) h hm
  have c2 := eP_cross (i := i) (j := k) h hm
  have c3 := eP_cross (i := k) (j := j) (den := den) h hp
  have p1 := eP_pos (i := i) (j := j) h hm
  have p2 := eP_pos (i := i) (j := k) h hm
  have p3 := eP_pos (i := k) (j := j) (den := den) h hp
  have b := Dt.bar_step C (show Dt.mS A k k k ≠ 0 by rw [← Dt.md_succ]; exact Int.ne_of_gt hp) ne j
  have d1 : dd den (k + 1) k = 1 := if_pos (Nat.lt_succ_self k)
  have d2 : dd den (k + 1) i = dd den k i := by
    unfold dd
    by_cases c : i < k
    · rw [if_pos c, if_pos (by omega)]
    · rw [if_neg c, if_neg (by omega)]
  have dp := dd_pos h k i
  rw [d1, Int.mul_one, Dt.mS_pivot] at c3
  unfold Dt.mT at b
  rw [← Dt.md_succ] at b
  show lowP _ _ = lowP _ _
  refine low_eq (Int.mul_pos p1 (Int.mul_pos p2 p3)) (by rw [d2]; exact Int.mul_pos hp dp) ?_
  rw [d2]
  generalize (eP A den k i j).1 = x at c1 ⊢
  generalize (eP A den k i j).2 = y at c1 ⊢
  generalize (eP A den k i k).1 = p0 at c2 ⊢
  generalize (eP A den k i k).2 = q0 at c2 ⊢
  generalize (eP A den (k + 1) k j).1 = u at c3 ⊢
  generalize (eP A den (k + 1) k j).2 = v at c3 ⊢
  generalize Dt.mS A (k + 1) i j = z at b ⊢
  generalize Dt.mS A k i j = m at c1 b
  generalize Dt.mS A k i k = r at c2 b
  generalize Dt.mS A k k j = w at c3 b
  generalize Dt.md A (k + 1) = N at c3 b hp ⊢
  generalize dd den k i = d at c1 c2 dp ⊢
  generalize Dt.md A k = M at c1 c2 b hm
  refine Int.eq_of_mul_eq_mul_right (Int.ne_of_gt hm) ?_
  have e0 : (0 - p0) * u * y = -(p0 * u * y) := by rw [Int.zero_sub, Int.neg_mul, Int.neg_mul]
  rw [e0]
  have l1 : (x * (q0 * v) + -(p0 * u * y)) * (N * d) * M = x * (q0 * v) * (N * d) * M - p0 * u * y * (N * d) * M := by
    rw [Int.add_mul, Int.add_mul, Int.neg_mul, Int.neg_mul, Int.sub_eq_add_neg]
  have l2 : x * (q0 * v) * (N * d) * M = (x * (M * d)) * (q0 * v * N) := by ac_rfl
  have l3 : p0 * u * y * (N * d) * M = (p0 * (M * d)) * (u * N) * y := by ac_rfl
  have r1 : z * (y * (q0 * v)) * M = (M * z) * (y * (q0 * v)) := by ac_rfl
  rw [l1, l2, l3, r1, c1, c2, c3, b, Int.sub_mul]
  have g1 : m * y * (q0 * v * N) = N * m * (y * (q0 * v)) := by ac_rfl
  have g2 : r * q0 * (w * v) * y = r * w * (y * (q0 * v)) := by ac_rfl
  rw [g1, g2]
/-- a row that has no part of it -/
theorem keep_eq (h : 0 < den) {k i j : Nat} (ne : i ≠ k) (C : Dt.Cmb A k) (hm : 0 < Dt.md A k) (hp : 0 < Dt.md A (k + 1)) (h0 : (eP A den k i k).1 = 0) : eP A den k i j = eP A den (k + 1) i j := by
  have c2 := eP_cross (i := i) (j := k) h hm
  have p2 := eP_pos (i := i) (j := k) h hm
  have b := Dt.bar_step C (show Dt.mS A k k k ≠ 0 by rw [← Dt.md_succ]; exact Int.ne_of_gt hp) ne j
  have d2 : dd den (k + 1) i = dd den k i := by
    unfold dd
    by_cases c : i < k
    · rw [if_pos c, if_pos (by omega)]
    · rw [if_neg c, if_neg (by omega)]
  have dp := dd_pos h k i
  rw [h0, Int.zero_mul] at c2
  have r0 : Dt.mS A k i k = 0 := by
    rcases Int.mul_eq_zero.mp c2.symm with c | c
    · exact c
    · omega
  unfold Dt.mT at b
  rw [r0, Int.zero_mul, Int.sub_zero, ← Dt.md_succ] at b
  unfold eP
  refine low_eq (Int.mul_pos hm dp) (by rw [d2]; exact Int.mul_pos hp dp) ?_
  rw [d2]
  have l : Dt.mS A k i j * (Dt.md A (k + 1) * dd den k i) = (Dt.md A (k + 1) * Dt.mS A k i j) * dd den k i := by ac_rfl
  rw [l, ← b]
  ac_rfl
end
theorem upd_id {H : Hp} {a : Addr} {o : HO} (h : H a = some o) : upd H a o = H := by
  funext c
  by_cases e : c = a
  · subst e; rw [upd_same, h]
  · exact upd_ne e
theorem set_id {l : List V} {k : Nat} {v : V} (h : l[k]? = some v) : (l.set k v).set k v = l := by
  rw [List.set_set]
  refine List.ext_getElem? fun j => ?_
  by_cases c : k = j
  · subst c
    rw [List.getElem?_set_self (List.getElem?_eq_some_iff.mp h).1, h]
  · rw [List.getElem?_set_ne c]
theorem head_at {m : Nat} {f : Nat → Bool} {v : Nat → V} (hm : 0 < m) (h0 : f 0 = true) : atI (((List.range m).filter f).map v) 0 = some (v 0) := by
  obtain ⟨m', rfl⟩ : ∃ m', m = m' + 1 := ⟨m - 1, by omega⟩
  rw [List.range_succ_eq_map, List.filter_cons, if_pos h0]
  exact atI_nat (i := 0) rfl
theorem eP_le {A : Nat → Nat → Int} {den : Int} {n k i j : Nat} (d0 : 0 < den) (dB : den.natAbs < 2 ^ 300) (bS : ∀ k i j, k ≤ n → (Dt.mS A k i j).natAbs < 2 ^ 2080) (bD : ∀ k, k ≤ n → (Dt.md A k).natAbs < 2 ^ 2080) (hk : k ≤ n) (hm : 0 < Dt.md A k) : (eP A den k i j).1.natAbs < 2 ^ 2400 ∧ (eP A den k i j).2.natAbs < 2 ^ 2400 := by
  obtain ⟨l1, l2⟩ := low_le (a := Dt.mS A k i j) (Int.mul_pos hm (dd_pos d0 k i))
  have db : (dd den k i).natAbs < 2 ^ 300 := by
    unfold dd
    split
    · exact Nat.one_lt_two_pow (by decide)
    · exact dB
  exact ⟨nat_up (Nat.lt_of_le_of_lt l1 (bS k i j hk)) (by decide), nat_up (Nat.lt_of_le_of_lt l2 (wide_lt (bD k hk) db)) (by decide)⟩
section
variable {P : Program} {w : World} {K : PySem.W.Frag} {mg : Str → Option Value} {base : Heap}
def spLso : Sp := fun vs H Q _ => ∃ (a b : Addr) (n : Nat) (A : Nat → Nat → Int) (den : Int), vs = [.ref a, .ref b] ∧ a ≠ b ∧ n ≤ 100 ∧ Dt.Zw n 0 A ∧ 0 < den ∧ den.natAbs < 2 ^ 300 ∧ (∀ k i j, k ≤ n → (Dt.mS A k i j).natAbs < 2 ^ 2080) ∧ (∀ k, k ≤ n → (Dt.md A k).natAbs < 2 ^ 2080) ∧ RwA H a b n (fun i j => eP A den 0 i j) ∧ FrL H b n (fun i => eP A den 0 i n) ∧
  ∀ H', (∀ c o, c ≠ a → c ≠ b → H c = some o → H' c = some o) → FrL H' b n (fun i => lowP (Dt.mS A n i n) (Dt.md A n)) → Q (.ref b) H'
structure TgL (mg : Str → Option Value) : Prop where
  len : mg "len" = none
  range : mg "range" = none
  zip : mg "zip" = none
  abs : mg "abs" = none
  sorted : mg "sorted" = none
  dict : mg "dict" = none
  int : mg "int" = none
theorem scLso : FnScope ["rows", "sums", "many", "at", "spot", "top", "below", "turn", "k", "part", "less", "one", "two"] ["rows", "sums"] (defScope sLso) := ⟨rfl, rfl, rfl, by decide +kernel, rfl, by decide +kernel, by decide +kernel⟩
set_option maxHeartbeats 2000000 in
theorem ok_lso {f fLo fAd : Addr} {fd fdLo fdAd : FuncData} (F : Fun K "_law_solved" "_law_solved" sLso f fd) (T : TgL mg)
    (FLo : Fun K "_law_lowest" "_law_lowest" sLow fLo fdLo) (GLo : FnOk P w K mg base CX0 1 fLo fdLo ["top", "below"] spLow) (bLo : Binds K fdLo ["top", "below"] []) (gLo : mg "_law_lowest" = some (.ref fLo))
    (FAd : Fun K "_law_added" "_law_added" sAdd fAd fdAd) (GAd : FnOk P w K mg base CX0 2 fAd fdAd ["one", "other"] spAdd) (bAd : Binds K fdAd ["one", "other"] []) (gAd : mg "_law_added" = some (.ref fAd)) : FnOk P w K mg base CX0 3 f fd ["rows", "sums"] spLso := by
  refine F.ok scLso (fun vs H Q E h => ?_) (fun cdv A outer s H vs Q E hr h => ?_)
  · obtain ⟨a, b, n, A, den, rfl, _⟩ := h
    rfl
  · obtain ⟨a, b, n, M, den, rfl, ab, n6, Z, d0, dB, bS, bD, hR, hS, k⟩ := h
    have hr2 : Room 2 _ := hr.mono (by decide)
    have hr1 : Room 1 _ := hr.mono (by decide)
    refine ⟨_, (pss_cons (ps_set (i := 2) scLso.nd rfl (Or.inl rfl) (pe_callB call_len_seq (by rfl) T.len PySem.boot_len (pa_cons (pv 0) pa_nil)))
      (pss_cons (ps_for PassesOwn.never rfl (pi_range1 (by rfl) T.range (pa_cons (pv 2) pa_nil)) (pg_name (i := 3) scLso.nd rfl (Or.inr rfl)) (pss_cons (ps_set (i := 4) scLso.nd rfl (Or.inl rfl) (pe_ix ix_list (pe_lc (own := [("k", 8)]) (g := gName 8) rfl scLso.nd (pi_range2 (by rfl) T.range (pa_cons (pv 3) (pa_cons (pv 2) pa_nil))) (blkOk_by (N := ["rows", "sums", "many", "at", "spot", "top", "below", "turn", "k", "part", "less", "one", "two"]) (sc := defScope sLso) (by decide +kernel)) (fun _ _ _ _ _ => (pg_name (i := 8) scLso.nd rfl (Or.inl rfl))) (fun _ _ _ _ _ => (pts_one (pt_cmpR op_ne (pe_ix (show IxR _ (rIxT K) from ix_tup) (pe_ix (show IxR _ (rIxL K) from ix_list) (pe_ix (show IxR _ (rIxL K) from ix_list) (pv 0) (pv 8) (fun _ _ => rfl)) (pv 3) (fun _ _ => rfl)) pe_int (fun _ _ => rfl)) pe_int (nomark _)))) (fun _ _ _ _ _ => (pv 8))) pe_int (fun _ _ => rfl)))
      (pss_cons (ps_asg (pe_tup (pa_cons (pe_ix (show IxR _ (rIxL K) from ix_list) (pv 0) (pv 4) (fun _ _ => rfl)) (pa_cons (pe_ix (show IxR _ (rIxL K) from ix_list) (pv 0) (pv 3) (fun _ _ => rfl)) pa_nil))) (pg_tup (by rfl) (pgs_cons (pg_sub (pv 0) (pv 3) set_list) (pgs_cons (pg_sub (pv 0) (pv 4) set_list) pgs_nil))))
      (pss_cons (ps_asg (pe_tup (pa_cons (pe_ix (show IxR _ (rIxL K) from ix_list) (pv 1) (pv 4) (fun _ _ => rfl)) (pa_cons (pe_ix (show IxR _ (rIxL K) from ix_list) (pv 1) (pv 3) (fun _ _ => rfl)) pa_nil))) (pg_tup (by rfl) (pgs_cons (pg_sub (pv 1) (pv 3) set_list) (pgs_cons (pg_sub (pv 1) (pv 4) set_list) pgs_nil))))
      (pss_cons (ps_asg (pe_ix ix_list (pe_ix ix_list (pv 0) (pv 3) (fun _ _ => rfl)) (pv 3) (fun _ _ => rfl)) (pg_tup (by rfl) (pgs_cons (pg_name (i := 5) scLso.nd rfl (Or.inr rfl)) (pgs_cons (pg_name (i := 6) scLso.nd rfl (Or.inr rfl)) pgs_nil))))
      (pss_cons (ps_set (i := 7) scLso.nd rfl (Or.inr rfl) (pe_ifExp (pt_cmpR op_gt (pv 5) pe_int (nomark _)) pe_int (pe_un un_neg pe_int)))
      (pss_cons (ps_asg (pe_lc (own := [("one", 11)]) (g := gName 11) (tt := tYes) rfl scLso.nd (pi_list (pe_ix ix_list (pv 0) (pv 3) (fun _ _ => rfl))) (blkOk_by (N := ["rows", "sums", "many", "at", "spot", "top", "below", "turn", "k", "part", "less", "one", "two"]) (sc := defScope sLso) (by decide +kernel)) (fun _ _ _ _ _ => (pg_name (i := 11) scLso.nd rfl (Or.inl rfl))) (fun _ _ _ _ _ => pts_nil) (fun _ _ _ _ _ => (pe_call GLo hr1 (by rfl) gLo FLo.kp bLo .nil pass0 (pa_cons (pe_op (show OpR _ _ (rI CMulW fun i j => .int (i * j)) from op_mulW) (pe_op (show OpR _ _ (rI CMulW fun i j => .int (i * j)) from op_mulW) (pv 7) (pe_ix (show IxR _ (rIxT K) from ix_tup) (pv 11) pe_int (fun _ _ => rfl))) (pv 6)) (pa_cons (pe_op (show OpR _ _ (rI CMulW fun i j => .int (i * j)) from op_mulW) (pe_ix (show IxR _ (rIxT K) from ix_tup) (pv 11) pe_int (fun _ _ => rfl)) (pe_callB call_abs (by rfl) T.abs boot_abs (pa_cons (pv 5) pa_nil))) pa_nil))))) (pg_sub (pv 0) (pv 3) set_list))
      (pss_cons (ps_asg (pe_call GLo hr1 (by rfl) gLo FLo.kp bLo .nil pass0 (pa_cons (pe_op (show OpR _ _ (rI CMulW fun i j => .int (i * j)) from op_mulW) (pe_op (show OpR _ _ (rI CMulW fun i j => .int (i * j)) from op_mulW) (pv 7) (pe_ix (show IxR _ (rIxT K) from ix_tup) (pe_ix (show IxR _ (rIxL K) from ix_list) (pv 1) (pv 3) (fun _ _ => rfl)) pe_int (fun _ _ => rfl))) (pv 6)) (pa_cons (pe_op (show OpR _ _ (rI CMulW fun i j => .int (i * j)) from op_mulW) (pe_ix (show IxR _ (rIxT K) from ix_tup) (pe_ix (show IxR _ (rIxL K) from ix_list) (pv 1) (pv 3) (fun _ _ => rfl)) pe_int (fun _ _ => rfl)) (pe_callB call_abs (by rfl) T.abs boot_abs (pa_cons (pv 5) pa_nil))) pa_nil))) (pg_sub (pv 1) (pv 3) set_list))
      (pss_one (ps_for PassesOwn.never rfl (pi_range1 (by rfl) T.range (pa_cons (pv 2) pa_nil)) (pg_name (i := 8) scLso.nd rfl (Or.inl rfl)) (pss_cons (ps_set (i := 9) scLso.nd rfl (Or.inl rfl) (pe_ix ix_list (pe_ix ix_list (pv 0) (pv 8) (fun _ _ => rfl)) (pv 3) (fun _ _ => rfl)))
      (pss_one (ps_if (PW.pt (pw_and (pt_cmpR op_ne (pv 8) (pv 3) (nomark _)) (pw_and1 (pt_cmpR op_ne (pe_ix (show IxR _ (rIxT K) from ix_tup) (pv 9) pe_int (fun _ _ => rfl)) pe_int (nomark _))))) (pss_cons (ps_set (i := 10) scLso.nd rfl (Or.inr rfl) (pe_tup (pa_cons (pe_op op_sub pe_int (pe_ix (show IxR _ (rIxT K) from ix_tup) (pv 9) pe_int (fun _ _ => rfl))) (pa_cons (pe_ix (show IxR _ (rIxT K) from ix_tup) (pv 9) pe_int (fun _ _ => rfl)) pa_nil))))
      (pss_cons (ps_asg (pe_lc (own := [("one", 11), ("two", 12)]) (g := gTup K 2 (gCons (gName 11) (gCons (gName 12) gNil))) (tt := tYes) rfl scLso.nd (pi_zip (by rfl) T.zip (pa_cons (pe_ix (show IxR _ (rIxL K) from ix_list) (pv 0) (pv 8) (fun _ _ => rfl)) (pa_cons (pe_ix (show IxR _ (rIxL K) from ix_list) (pv 0) (pv 3) (fun _ _ => rfl)) pa_nil))) (blkOk_by (N := ["rows", "sums", "many", "at", "spot", "top", "below", "turn", "k", "part", "less", "one", "two"]) (sc := defScope sLso) (by decide +kernel)) (fun _ _ _ _ _ => (pg_tup (by rfl) (pgs_cons (pg_name (i := 11) scLso.nd rfl (Or.inl rfl)) (pgs_cons (pg_name (i := 12) scLso.nd rfl (Or.inl rfl)) pgs_nil)))) (fun _ _ _ _ _ => pts_nil) (fun _ _ _ _ _ => (pe_call GAd hr2 (by rfl) gAd FAd.kp bAd .nil pass0 (pa_cons (pv 11) (pa_cons (pe_tup (pa_cons (pe_op (show OpR _ _ (rI CMulW fun i j => .int (i * j)) from op_mulW) (pe_ix (show IxR _ (rIxT K) from ix_tup) (pv 10) pe_int (fun _ _ => rfl)) (pe_ix (show IxR _ (rIxT K) from ix_tup) (pv 12) pe_int (fun _ _ => rfl))) (pa_cons (pe_op (show OpR _ _ (rI CMulW fun i j => .int (i * j)) from op_mulW) (pe_ix (show IxR _ (rIxT K) from ix_tup) (pv 10) pe_int (fun _ _ => rfl)) (pe_ix (show IxR _ (rIxT K) from ix_tup) (pv 12) pe_int (fun _ _ => rfl))) pa_nil))) pa_nil))))) (pg_sub (pv 0) (pv 8) set_list))
      (pss_one (ps_asg (pe_call GAd hr2 (by rfl) gAd FAd.kp bAd .nil pass0 (pa_cons (pe_ix (show IxR _ (rIxL K) from ix_list) (pv 1) (pv 8) (fun _ _ => rfl)) (pa_cons (pe_tup (pa_cons (pe_op (show OpR _ _ (rI CMulW fun i j => .int (i * j)) from op_mulW) (pe_ix (show IxR _ (rIxT K) from ix_tup) (pv 10) pe_int (fun _ _ => rfl)) (pe_ix (show IxR _ (rIxT K) from ix_tup) (pe_ix (show IxR _ (rIxL K) from ix_list) (pv 1) (pv 3) (fun _ _ => rfl)) pe_int (fun _ _ => rfl))) (pa_cons (pe_op (show OpR _ _ (rI CMulW fun i j => .int (i * j)) from op_mulW) (pe_ix (show IxR _ (rIxT K) from ix_tup) (pv 10) pe_int (fun _ _ => rfl)) (pe_ix (show IxR _ (rIxT K) from ix_tup) (pe_ix (show IxR _ (rIxL K) from ix_list) (pv 1) (pv 3) (fun _ _ => rfl)) pe_int (fun _ _ => rfl))) pa_nil))) pa_nil))) (pg_sub (pv 1) (pv 8) set_list))))) pss_nil)))))))))))))
      (pss_one (ps_ret (pv 1))))), ?_⟩
    obtain ⟨qs0, h1, h2, h3⟩ := id hR
    have lq : (qs0.map V.ref).length = n := by rw [List.length_map, h2]
    refine ⟨_, rfl, a, _, rfl, .inl (SqL.of h1), ?_⟩
    rw [lq]
    refine ⟨_, rfl, n, rfl, by omega, by omega, for_it (walk_range (lo := 0) (n := n)) (fun k σ Ho => (∀ c o, c ≠ a → c ≠ b → H c = some o → Ho c = some o) ∧ RwA Ho a b n (fun i j => eP M den k i j) ∧ FrL Ho b n (fun i => eP M den k i n) ∧ ∃ y3 y4 y5 y6 y7 y8 y9 y10 : Option V, σ = [some (.ref a), some (.ref b), some (.int (n : Nat)), y3, y4, y5, y6, y7, y8, y9, y10, none, none]) ?_ ?_ ?_ ?_⟩
    · exact ⟨fun c o _ _ e => e, hR, hS, _, _, _, _, _, _, _, _, rfl⟩
    · exact fun _ _ _ _ _ => trivial
    · rintro k1 x σ Ho Ho' hk ⟨kp, hR, hS, y3, y4, y5, y6, y7, y8, y9, y10, rfl⟩ ⟨rfl, rfl⟩
      have x0 : V.int (0 + (k1 : Int)) = V.int (k1 : Nat) := by rw [Int.zero_add]
      dsimp only
      rw [x0]
      obtain ⟨C, hm, zi⟩ := Z.all k1 (Nat.le_of_lt hk)
      have hp := (Z.all (k1 + 1) hk).2.1
      have le1 : ∀ i j, (eP M den k1 i j).1.natAbs < 2 ^ 2400 ∧ (eP M den k1 i j).2.natAbs < 2 ^ 2400 := fun i j => eP_le d0 dB bS bD (Nat.le_of_lt hk) hm
      have le2 : ∀ i j, (eP M den (k1 + 1) i j).1.natAbs < 2 ^ 2400 ∧ (eP M den (k1 + 1) i j).2.natAbs < 2 ^ 2400 := fun i j => eP_le d0 dB bS bD hk hp
      have ep : ∀ i j, 0 < (eP M den k1 i j).2 := fun i j => eP_pos d0 hm
      have top0 : 0 < (eP M den k1 k1 k1).1 := by
        have c := eP_cross (A := M) (i := k1) (j := k1) d0 hm
        have D0 := Int.mul_pos hm (dd_pos d0 k1 k1)
        have r0 : 0 < Dt.mS M k1 k1 k1 * (eP M den k1 k1 k1).2 := Int.mul_pos (by rw [← Dt.md_succ]; exact hp) (ep _ _)
        rw [← c] at r0
        rcases Int.lt_trichotomy (eP M den k1 k1 k1).1 0 with g | g | g
        · have := Int.mul_neg_of_neg_of_pos g D0; omega
        · rw [g] at r0; omega
        · exact g
      obtain ⟨qs, a1, a2, a3⟩ := id hR
      obtain ⟨ts, b1, b2, b3⟩ := id hS
      have hq := List.getElem?_eq_getElem (show k1 < qs.length by omega)
      have ht := List.getElem?_eq_getElem (show k1 < ts.length by omega)
      generalize qs[k1] = q at hq
      generalize ts[k1] = t at ht
      have hql : (qs.map V.ref)[k1]? = some (.ref q) := by rw [List.getElem?_map, hq]; rfl
      have htl : (ts.map V.ref)[k1]? = some (.ref t) := by rw [List.getElem?_map, ht]; rfl
      -- the spot
      refine ⟨_, rfl, _, rfl, (k1 : Nat), (n : Nat), rfl, ⟨by omega, by omega, by omega, by omega⟩, fun D nD => ?_⟩
      refine lc_gen (walk_range (lo := (k1 : Nat)) (n := ((n : Int) - (k1 : Int)).toNat)) (fun i => !decide (V.int (eP M den k1 (k1 + i) k1).1 = V.int 0)) (fun i => .int ((k1 : Int) + (i : Int))) nD (by rw [sizeLine_eq]; omega) (fun _ _ => trivial) (fun i x Ha Hb hi sa yy Q2 R2 q2 r2 => ?_) (fun Ha sa hD => ?_)
      · obtain ⟨rfl, rfl⟩ := yy
        dsimp only
        have hki : k1 + i < n := by omega
        obtain ⟨qi, hqi⟩ : ∃ q, qs[k1 + i]? = some q := ⟨qs[k1 + i]'(by omega), List.getElem?_eq_getElem _⟩
        obtain ⟨_, _, fr⟩ := a3 _ _ hqi
        obtain ⟨us, u, u1, u2, u3, u4⟩ := fr.at hk
        have eki : (k1 : Int) + (i : Int) = ((k1 + i : Nat) : Int) := by omega
        refine ⟨rfl, ?_⟩
        refine ⟨_, rfl, _, rfl, a, _, _, _, rfl, rfl, SqL.of (sa _ _ a1), ?_, _, rfl, qi, _, _, _, rfl, rfl, SqL.of (sa _ _ u1), u3, u, _, 0, _, rfl, rfl, SqT.of (sa _ _ u4), rfl, rfl, _, rfl, ?_⟩
        · rw [eki]; exact atI_nat (by rw [List.getElem?_map, hqi]; rfl)
        · cases hb : (!decide (V.int (eP M den k1 (k1 + i) k1).1 = V.int 0))
          · rw [if_neg (by decide)]
            exact r2 hb _ (Same.refl _)
          · rw [if_pos rfl]
            exact ⟨_, rfl, q2 hb _ (Same.refl _)⟩
      · refine ⟨D, _, 0, _, rfl, rfl, SqL.of hD, head_at (by omega) ?_, ?_⟩
        · rw [Nat.add_zero]
          have : decide (V.int (eP M den k1 k1 k1).1 = V.int 0) = false := by
            rw [decide_eq_false_iff_not]
            intro z
            injection z with z
            omega
          rw [this]; rfl
        · have x1 : V.int ((k1 : Int) + ((0 : Nat) : Int)) = V.int (k1 : Nat) := by simp
          dsimp only
          rw [x1]
          -- the swaps
          have aq : atI (qs.map V.ref) (k1 : Int) = some (.ref q) := atI_nat hql
          have at' : atI (ts.map V.ref) (k1 : Int) = some (.ref t) := atI_nat htl
          have ixq : ixN (qs.map V.ref).length (k1 : Int) = some k1 := ixN_nat (by rw [List.length_map]; omega)
          have ixt : ixN (ts.map V.ref).length (k1 : Int) = some k1 := ixN_nat (by rw [List.length_map]; omega)
          refine ⟨_, rfl, _, rfl, a, _, _, _, rfl, rfl, SqL.of (sa _ _ a1), aq, _, rfl, _, rfl, a, _, _, _, rfl, rfl, SqL.of (sa _ _ a1), aq, by show 2 ≤ sizeLine; rw [sizeLine_eq]; decide, fun T1 n1 => ?_⟩
          have s1 := same_upd (o := .tup [.ref q, .ref q]) n1
          refine ⟨T1, _, rfl, SqT.of upd_same, rfl, _, _, rfl, _, rfl, _, rfl, a, _, _, _, rfl, rfl, s1 _ _ (sa _ _ a1), ixq, _, _, rfl, _, rfl, _, rfl, a, _, _, _, rfl, rfl, upd_same, by rw [List.length_set]; exact ixq, rfl, ?_⟩
          rw [L2.upd_upd, set_id hql, upd_id (s1 _ _ (sa _ _ a1))]
          have s01 := sa.trans s1
          generalize upd Ha T1 (.tup [.ref q, .ref q]) = H1 at s01 ⊢
          refine ⟨_, rfl, _, rfl, b, _, _, _, rfl, rfl, SqL.of (s01 _ _ b1), at', _, rfl, _, rfl, b, _, _, _, rfl, rfl, SqL.of (s01 _ _ b1), at', by show 2 ≤ sizeLine; rw [sizeLine_eq]; decide, fun T2 n2 => ?_⟩
          have s2 := same_upd (o := .tup [.ref t, .ref t]) n2
          refine ⟨T2, _, rfl, SqT.of upd_same, rfl, _, _, rfl, _, rfl, _, rfl, b, _, _, _, rfl, rfl, s2 _ _ (s01 _ _ b1), ixt, _, _, rfl, _, rfl, _, rfl, b, _, _, _, rfl, rfl, upd_same, by rw [List.length_set]; exact ixt, rfl, ?_⟩
          rw [L2.upd_upd, set_id htl, upd_id (s2 _ _ (s01 _ _ b1))]
          have s02 := s01.trans s2
          generalize upd H1 T2 (.tup [.ref t, .ref t]) = H2 at s02 ⊢
          -- the pivot
          obtain ⟨qa, qb, us, u1, u2, u4⟩ := a3 _ _ hq
          have hu := List.getElem?_eq_getElem (show k1 < us.length by omega)
          generalize us[k1] = u at hu
          have u3 : atI (us.map V.ref) (k1 : Int) = some (.ref u) := atI_nat (by rw [List.getElem?_map, hu]; rfl)
          refine ⟨_, rfl, _, rfl, a, _, _, _, rfl, rfl, SqL.of (s02 _ _ a1), aq, _, rfl, q, _, _, _, rfl, rfl, SqL.of (s02 _ _ u1), u3, u, _, rfl, SqT.of (s02 _ _ (u4 _ _ hu)), rfl, _, _, rfl, _, _, rfl, rfl, ?_⟩
          have t0 : decide ((0 : Int) < (eP M den k1 k1 k1).1) = true := decide_eq_true top0
          refine ⟨_, rfl, _, _, rfl, rfl, _, rfl, ?_⟩
          dsimp only
          rw [t0, if_pos rfl]
          obtain ⟨tp1, tp2⟩ := le1 k1 k1
          have one1 : (1 : Int).natAbs < 2 ^ 1 := by decide
          have nab : ¬ (eP M den k1 k1 k1).1 < 0 := by omega
          refine ⟨_, rfl, _, rfl, a, _, _, _, rfl, rfl, SqL.of (s02 _ _ a1), aq, q, rfl, ⟨_, SqL.of (s02 _ _ u1)⟩, fun D3 nD3 => ?_⟩
          refine lc_madeO (walk_list (K := K) (a := q) (xs := us.map V.ref)) (fun j => pV (eP M den (k1 + 1) k1 j)) nD3 (by rw [List.length_map, u2, sizeLine_eq]; omega) (fun Hc sc => SqL.of (sc _ _ (s02 _ _ u1))) (fun j x Hc Hd hj sc yy Q3 R3 q3 => ?_) (fun Hc sc vs3 hD3 lv3 hv3 => ?_)
          · obtain ⟨rfl, hx⟩ := yy
            obtain ⟨tj, htj, rfl⟩ := at_ref hx
            have ctj := sc _ _ (s02 _ _ (u4 j tj htj))
            obtain ⟨x1, y1⟩ := le1 k1 j
            refine ⟨rfl, tyes ?_⟩
            refine ⟨_, rfl, _, rfl, tj, _, 0, _, rfl, rfl, SqT.of ctj, rfl, _, _, rfl, rfl, wide_mul one1 x1 (by decide) (by decide) (by decide), _, rfl, _, _, rfl, rfl, wide_mul (wide_lt one1 x1) tp2 (by decide) (by decide) (by decide), _, rfl, tj, _, 1, _, rfl, rfl, SqT.of ctj, rfl, _, rfl, _, rfl, ?_⟩
            rw [if_neg nab]
            refine ⟨_, _, rfl, rfl, wide_mul y1 tp1 (by decide) (by decide) (by decide), _, _, rfl, Int.mul_pos (ep _ _) top0, nat_up (wide_lt y1 tp1) (by decide), fun p np => q3 p _ (same_upd np) np ?_⟩
            rw [upd_same]
            show some (pV (lowP _ _)) = _
            rw [norm_eq d0 hm hp top0]
          · have s03 := s02.trans sc
            have hA3 := s03 _ _ a1
            refine ⟨_, rfl, _, rfl, a, _, _, k1, rfl, rfl, hA3, ixq, ?_⟩
            have Da : D3 ≠ a := fun z => by rw [z, s02 _ _ a1] at nD3; cases nD3
            have Db : D3 ≠ b := fun z => by rw [z, s02 _ _ b1] at nD3; cases nD3
            have R3 := RwA.set (k := k1) (g := eP M den (k1 + 1) k1) hA3 a2 (fun i q g => ⟨(a3 i q g).1, (a3 i q g).2.1, (a3 i q g).2.2.same s03⟩) ⟨vs3, hD3, by rw [lv3, List.length_map, u2], hv3⟩ Da Db
            have hb3 : upd Hc a (.lst ((qs.map V.ref).set k1 (.ref D3))) b = some (.lst (ts.map V.ref)) := by rw [upd_ne (Ne.symm ab)]; exact s03 _ _ b1
            have c3 : ∀ (j : Nat) (t : Addr), ts[j]? = some t → upd Hc a (.lst ((qs.map V.ref).set k1 (.ref D3))) t = some (pV (eP M den k1 j n)) := fun j t g => by
              have := s03 _ _ (b3 j t g)
              rw [upd_ne (pV_ne this hA3)]; exact this
            have kp3 : ∀ c o, c ≠ a → c ≠ b → Ho' c = some o → upd Hc a (.lst ((qs.map V.ref).set k1 (.ref D3))) c = some o := fun c o w1 w2 e => by rw [upd_ne w1]; exact s03 _ _ e
            generalize upd Hc a (.lst ((qs.map V.ref).set k1 (.ref D3))) = H3 at R3 hb3 c3 kp3 ⊢
            have ct := c3 _ _ ht
            obtain ⟨x1, y1⟩ := le1 k1 n
            -- the sum
            refine ⟨_, rfl, _, rfl, _, rfl, b, _, _, _, rfl, rfl, SqL.of hb3, at', t, _, 0, _, rfl, rfl, SqT.of ct, rfl, _, _, rfl, rfl, wide_mul one1 x1 (by decide) (by decide) (by decide), _, rfl, _, _, rfl, rfl, wide_mul (wide_lt one1 x1) tp2 (by decide) (by decide) (by decide), ?_⟩
            refine ⟨_, rfl, _, rfl, b, _, _, _, rfl, rfl, SqL.of hb3, at', t, _, 1, _, rfl, rfl, SqT.of ct, rfl, _, rfl, _, rfl, ?_⟩
            rw [if_neg nab]
            refine ⟨_, _, rfl, rfl, wide_mul y1 tp1 (by decide) (by decide) (by decide), _, _, rfl, Int.mul_pos (ep _ _) top0, nat_up (wide_lt y1 tp1) (by decide), fun p4 n4 => ?_⟩
            have s4 := same_upd (o := pV (lowP (1 * (eP M den k1 k1 n).1 * (eP M den k1 k1 k1).2) ((eP M den k1 k1 n).2 * (eP M den k1 k1 k1).1))) n4
            have hb4 := s4 _ _ hb3
            refine ⟨_, rfl, _, rfl, b, _, _, k1, rfl, rfl, hb4, ixt, ?_⟩
            have S4 := FrL.set (k := k1) hb4 b2 (fun j t g => s4 _ _ (c3 j t g)) (upd_same (H := H3) (a := p4) (o := pV (lowP (1 * (eP M den k1 k1 n).1 * (eP M den k1 k1 k1).2) ((eP M den k1 k1 n).2 * (eP M den k1 k1 k1).1))))
            rw [norm_eq d0 hm hp top0] at S4 s4 hb4
            have R4 := (R3.same s4).putB (o := .lst ((ts.map V.ref).set k1 (.ref p4))) ab hb4
            have kp4 : ∀ c o, c ≠ a → c ≠ b → Ho' c = some o → upd (upd H3 p4 (pV (eP M den (k1 + 1) k1 n))) b (.lst ((ts.map V.ref).set k1 (.ref p4))) c = some o := fun c o w1 w2 e => by rw [upd_ne w2]; exact s4 _ _ (kp3 c o w1 w2 e)
            refine ⟨_, rfl, n, rfl, by omega, by omega, for_it (walk_range (lo := 0) (n := n)) (fun kk σ Hx => (∀ c o, c ≠ a → c ≠ b → Ho' c = some o → Hx c = some o) ∧ RwA Hx a b n (fun i j => eP M den (if i = k1 ∨ i < kk then k1 + 1 else k1) i j) ∧ FrL Hx b n (fun i => eP M den (if i = k1 ∨ i < kk then k1 + 1 else k1) i n) ∧ ∃ y8 y9 y10 : Option V, σ = [some (.ref a), some (.ref b), some (.int (n : Nat)), some (.int (k1 : Nat)), some (.int (k1 : Nat)), some (.int (eP M den k1 k1 k1).1), some (.int (eP M den k1 k1 k1).2), some (.int 1), y8, y9, y10, none, none]) ?_ ?_ ?_ ?_⟩
            · have st : ∀ i j, (if i = k1 then eP M den (k1 + 1) k1 else eP M den k1 i) j = eP M den (if i = k1 ∨ i < 0 then k1 + 1 else k1) i j := fun i j => by
                by_cases c : i = k1
                · subst c; rw [if_pos rfl, if_pos (.inl rfl)]
                · rw [if_neg c, if_neg (by omega)]
              refine ⟨?_, ?_, ?_, _, _, _, rfl⟩
              · rw [← norm_eq d0 hm hp top0] at kp4
                exact kp4
              · rw [← norm_eq d0 hm hp top0] at R4
                exact R4.cong fun i j _ _ => by rw [← st i j]
              · rw [← norm_eq d0 hm hp top0] at S4
                refine S4.cong fun j _ => ?_
                by_cases c : j = k1
                · subst c; rw [if_pos rfl, if_pos (.inl rfl), norm_eq d0 hm hp top0]
                · rw [if_neg c, if_neg (by omega)]
            · exact fun _ _ _ _ _ => trivial
            · rintro kk x σ Hx Hx' hkk ⟨kx, hR, hS, y8, y9, y10, rfl⟩ ⟨rfl, rfl⟩
              have x0 : V.int (0 + (kk : Int)) = V.int (kk : Nat) := by rw [Int.zero_add]
              dsimp only
              rw [x0]
              obtain ⟨qs, a1, a2, a3⟩ := id hR
              obtain ⟨ts, b1, b2, b3⟩ := id hS
              have hqk := List.getElem?_eq_getElem (show kk < qs.length by omega)
              have hq1 := List.getElem?_eq_getElem (show k1 < qs.length by omega)
              have htk := List.getElem?_eq_getElem (show kk < ts.length by omega)
              have ht1 := List.getElem?_eq_getElem (show k1 < ts.length by omega)
              generalize qs[kk] = qk at hqk
              generalize qs[k1] = q1 at hq1
              generalize ts[kk] = tk at htk
              generalize ts[k1] = t1 at ht1
              have aqk : atI (qs.map V.ref) (kk : Int) = some (.ref qk) := atI_nat (by rw [List.getElem?_map, hqk]; rfl)
              have aq1 : atI (qs.map V.ref) (k1 : Int) = some (.ref q1) := atI_nat (by rw [List.getElem?_map, hq1]; rfl)
              have atk : atI (ts.map V.ref) (kk : Int) = some (.ref tk) := atI_nat (by rw [List.getElem?_map, htk]; rfl)
              have at1 : atI (ts.map V.ref) (k1 : Int) = some (.ref t1) := atI_nat (by rw [List.getElem?_map, ht1]; rfl)
              have ixq : ixN (qs.map V.ref).length (kk : Int) = some kk := ixN_nat (by rw [List.length_map]; omega)
              have ixt : ixN (ts.map V.ref).length (kk : Int) = some kk := ixN_nat (by rw [List.length_map]; omega)
              obtain ⟨qka, qkb, us, u1, u2, u4⟩ := a3 _ _ hqk
              obtain ⟨q1a, q1b, vs, v1, v2, v4⟩ := a3 _ _ hq1
              have hu := List.getElem?_eq_getElem (show k1 < us.length by omega)
              generalize us[k1] = u at hu
              have u3 : atI (us.map V.ref) (k1 : Int) = some (.ref u) := atI_nat (by rw [List.getElem?_map, hu]; rfl)
              have cu := u4 _ _ hu
              refine ⟨_, rfl, _, rfl, a, _, _, _, rfl, rfl, SqL.of a1, aqk, _, rfl, qk, _, _, _, rfl, rfl, SqL.of u1, u3, ?_⟩
              refine ⟨_, rfl, _, rfl, rfl, _, rfl, ?_⟩
              dsimp only
              by_cases c : kk = k1
              · rw [show (!decide (V.int (kk : Int) = V.int (k1 : Int))) = false by rw [c]; simp, if_neg (by decide), if_neg (by decide)]
                have st : ∀ i, (if i = k1 ∨ i < kk then k1 + 1 else k1) = if i = k1 ∨ i < kk + 1 then k1 + 1 else k1 := fun i => by
                  by_cases d : i = k1 ∨ i < kk
                  · rw [if_pos d, if_pos (by omega)]
                  · rw [if_neg d, if_neg (by omega)]
                exact ⟨kx, hR.cong fun i j _ _ => by rw [st i], hS.cong fun i _ => by rw [st i], _, _, _, rfl⟩
              · have dk : decide (V.int (kk : Int) = V.int (k1 : Int)) = false := by
                  rw [decide_eq_false_iff_not]
                  intro z
                  injection z with z
                  omega
                have sk : (if kk = k1 ∨ kk < kk then k1 + 1 else k1) = k1 := if_neg (by omega)
                have s1' : (if k1 = k1 ∨ k1 < kk then k1 + 1 else k1) = k1 + 1 := if_pos (.inl rfl)
                have sn : ∀ i, i ≠ kk → (if i = k1 ∨ i < kk then k1 + 1 else k1) = if i = k1 ∨ i < kk + 1 then k1 + 1 else k1 := fun i ne => by
                  by_cases d : i = k1 ∨ i < kk
                  · rw [if_pos d, if_pos (by omega)]
                  · rw [if_neg d, if_neg (by omega)]
                have skk : (if kk = k1 ∨ kk < kk + 1 then k1 + 1 else k1) = k1 + 1 := if_pos (.inr (by omega))
                rw [dk]
                rw [if_pos (by rfl)]
                dsimp only at cu
                rw [sk] at cu
                refine ⟨_, rfl, u, _, 0, _, rfl, rfl, SqT.of cu, rfl, rfl, _, rfl, ?_⟩
                by_cases e0 : (eP M den k1 kk k1).1 = 0
                · dsimp only
                  rw [show (!decide (V.int (eP M den k1 kk k1).1 = V.int 0)) = false by rw [e0]; simp, if_neg (by decide)]
                  refine ⟨kx, hR.cong fun i j _ _ => ?_, hS.cong fun i _ => ?_, _, _, _, rfl⟩
                  · by_cases d : i = kk
                    · subst d; rw [sk, skk]; exact keep_eq d0 c C hm hp e0
                    · rw [sn i d]
                  · by_cases d : i = kk
                    · subst d; rw [sk, skk]; exact keep_eq d0 c C hm hp e0
                    · rw [sn i d]
                · have de0 : decide (V.int (eP M den k1 kk k1).1 = V.int 0) = false := by
                    rw [decide_eq_false_iff_not]
                    intro z
                    injection z with z
                    exact e0 z
                  dsimp only
                  rw [de0]
                  rw [if_pos (by rfl)]
                  obtain ⟨p0, p1⟩ := le1 kk k1
                  have zr : ((0 : Int) - (eP M den k1 kk k1).1).natAbs < 2 ^ 2400 := by rw [Int.zero_sub, Int.natAbs_neg]; exact p0
                  refine ⟨_, rfl, u, _, 0, _, rfl, rfl, SqT.of cu, rfl, _, _, rfl, rfl, _, rfl, u, _, 1, _, rfl, rfl, SqT.of cu, rfl, by show 2 ≤ sizeLine; rw [sizeLine_eq]; decide, fun pl nl => ?_⟩
                  have sl := same_upd (o := .tup [.int (0 - (eP M den k1 kk k1).1), .int (eP M den k1 kk k1).2]) nl
                  have hl := upd_same (H := Hx') (a := pl) (o := .tup [.int (0 - (eP M den k1 kk k1).1), .int (eP M den k1 kk k1).2])
                  generalize upd Hx' pl (.tup [.int (0 - (eP M den k1 kk k1).1), .int (eP M den k1 kk k1).2]) = H5 at sl hl ⊢
                  refine ⟨_, rfl, _, rfl, a, _, _, _, rfl, rfl, SqL.of (sl _ _ a1), aqk, _, rfl, _, rfl, a, _, _, _, rfl, rfl, SqL.of (sl _ _ a1), aq1, qk, q1, _, _, rfl, SqL.of (sl _ _ u1), SqL.of (sl _ _ v1), fun D5 nD5 => ?_⟩
                  refine lc_madeO (walk_zip (K := K) (n := n) (by rw [List.length_map, List.length_map, u2, v2]; omega)) (fun j => pV (eP M den (k1 + 1) kk j)) nD5 (by rw [sizeLine_eq]; omega) (fun Hc sc => ⟨SqL.of (sc _ _ (sl _ _ u1)), SqL.of (sc _ _ (sl _ _ v1))⟩) (fun j x Hc Hd hj sc yy Q3 R3 q3 => ?_) (fun Hc sc vs5 hD5 lv5 hv5 => ?_)
                  · obtain ⟨T1, w1, w2, rfl, nT, rfl, e1, e2⟩ := yy
                    obtain ⟨o1, ho1, rfl⟩ := at_ref e1
                    obtain ⟨o2, ho2, rfl⟩ := at_ref e2
                    have sT := same_upd (o := .tup [.ref o1, .ref o2]) nT
                    have c1 := sT _ _ (sc _ _ (sl _ _ (u4 _ _ ho1)))
                    have c2 := sT _ _ (sc _ _ (sl _ _ (v4 _ _ ho2)))
                    have c3 := sT _ _ (sc _ _ hl)
                    dsimp only at c1 c2
                    rw [sk] at c1
                    rw [s1'] at c2
                    obtain ⟨g1, g2⟩ := le1 kk j
                    obtain ⟨g3, g4⟩ := le2 k1 j
                    refine ⟨T1, _, rfl, SqT.of upd_same, rfl, _, _, rfl, _, _, rfl, rfl, rfl, tyes ?_⟩
                    refine ⟨_, rfl, _, rfl, pl, _, 0, _, rfl, rfl, SqT.of c3, rfl, _, rfl, o2, _, 0, _, rfl, rfl, SqT.of c2, rfl, _, _, rfl, rfl, wide_mul zr g3 (by decide) (by decide) (by decide), ?_⟩
                    refine ⟨_, rfl, pl, _, 1, _, rfl, rfl, SqT.of c3, rfl, _, rfl, o2, _, 1, _, rfl, rfl, SqT.of c2, rfl, _, _, rfl, rfl, wide_mul p1 g4 (by decide) (by decide) (by decide), by show 2 ≤ sizeLine; rw [sizeLine_eq]; decide, fun pp np => ?_⟩
                    have sp := same_upd (o := .tup [.int ((0 - (eP M den k1 kk k1).1) * (eP M den (k1 + 1) k1 j).1), .int ((eP M den k1 kk k1).2 * (eP M den (k1 + 1) k1 j).2)]) np
                    refine ⟨o1, pp, _, _, _, _, rfl, sp _ _ c1, upd_same, ep _ _, Int.mul_pos (ep _ _) (eP_pos d0 hp), g1, g2, wide_lt zr g3, wide_lt p1 g4, fun T5 n5 => q3 T5 _ ((sT.trans sp).trans (same_upd n5)) ((sT.trans sp).free n5) ?_⟩
                    rw [upd_same]
                    show some (pV (lowP _ _)) = _
                    rw [elim_eq d0 c C hm hp]
                  · have s5 := sl.trans sc
                    have hA5 := s5 _ _ a1
                    refine ⟨_, rfl, _, rfl, a, _, _, kk, rfl, rfl, hA5, ixq, ?_⟩
                    have Da : D5 ≠ a := fun z => by rw [z, sl _ _ a1] at nD5; cases nD5
                    have Db : D5 ≠ b := fun z => by rw [z, sl _ _ b1] at nD5; cases nD5
                    have R5 := RwA.set (k := kk) (g := eP M den (k1 + 1) kk) hA5 a2 (fun i q g => ⟨(a3 i q g).1, (a3 i q g).2.1, (a3 i q g).2.2.same s5⟩) ⟨vs5, hD5, lv5, hv5⟩ Da Db
                    have hb5 : upd Hc a (.lst ((qs.map V.ref).set kk (.ref D5))) b = some (.lst (ts.map V.ref)) := by rw [upd_ne (Ne.symm ab)]; exact s5 _ _ b1
                    have c5 : ∀ (j : Nat) (t : Addr), ts[j]? = some t → upd Hc a (.lst ((qs.map V.ref).set kk (.ref D5))) t = some (pV (eP M den (if j = k1 ∨ j < kk then k1 + 1 else k1) j n)) := fun j t g => by
                      have := s5 _ _ (b3 j t g)
                      rw [upd_ne (pV_ne this hA5)]; exact this
                    have hl5 : upd Hc a (.lst ((qs.map V.ref).set kk (.ref D5))) pl = some (.tup [.int (0 - (eP M den k1 kk k1).1), .int (eP M den k1 kk k1).2]) := by
                      have := sc _ _ hl
                      rw [upd_ne (fun z => by rw [z, hA5] at this; cases this)]; exact this
                    have kp5 : ∀ c o, c ≠ a → c ≠ b → Ho' c = some o → upd Hc a (.lst ((qs.map V.ref).set kk (.ref D5))) c = some o := fun c o w1 w2 e => by rw [upd_ne w1]; exact s5 _ _ (kx c o w1 w2 e)
                    generalize upd Hc a (.lst ((qs.map V.ref).set kk (.ref D5))) = H6 at R5 hb5 c5 hl5 kp5 ⊢
                    have ck := c5 _ _ htk
                    have c1 := c5 _ _ ht1
                    rw [sk] at ck
                    rw [s1'] at c1
                    obtain ⟨g1, g2⟩ := le1 kk n
                    obtain ⟨g3, g4⟩ := le2 k1 n
                    refine ⟨_, rfl, _, rfl, b, _, _, _, rfl, rfl, SqL.of hb5, atk, ?_⟩
                    refine ⟨_, rfl, pl, _, 0, _, rfl, rfl, SqT.of hl5, rfl, _, rfl, _, rfl, b, _, _, _, rfl, rfl, SqL.of hb5, at1, t1, _, 0, _, rfl, rfl, SqT.of c1, rfl, _, _, rfl, rfl, wide_mul zr g3 (by decide) (by decide) (by decide), ?_⟩
                    refine ⟨_, rfl, pl, _, 1, _, rfl, rfl, SqT.of hl5, rfl, _, rfl, _, rfl, b, _, _, _, rfl, rfl, SqL.of hb5, at1, t1, _, 1, _, rfl, rfl, SqT.of c1, rfl, _, _, rfl, rfl, wide_mul p1 g4 (by decide) (by decide) (by decide), by show 2 ≤ sizeLine; rw [sizeLine_eq]; decide, fun pp np => ?_⟩
                    have sp := same_upd (o := .tup [.int ((0 - (eP M den k1 kk k1).1) * (eP M den (k1 + 1) k1 n).1), .int ((eP M den k1 kk k1).2 * (eP M den (k1 + 1) k1 n).2)]) np
                    refine ⟨tk, pp, _, _, _, _, rfl, sp _ _ ck, upd_same, ep _ _, Int.mul_pos (ep _ _) (eP_pos d0 hp), g1, g2, wide_lt zr g3, wide_lt p1 g4, fun T6 n6 => ?_⟩
                    rw [lowV_eq, elim_eq d0 c C hm hp]
                    have s6 := sp.trans (same_upd (o := pV (eP M den (k1 + 1) kk n)) n6)
                    have hb6 := s6 _ _ hb5
                    refine ⟨_, rfl, _, rfl, b, _, _, kk, rfl, rfl, hb6, ixt, ?_⟩
                    have S6 := FrL.set (k := kk) hb6 b2 (fun j t g => s6 _ _ (c5 j t g)) (upd_same (a := T6) (o := pV (eP M den (k1 + 1) kk n)))
                    have R6 := (R5.same s6).putB (o := .lst ((ts.map V.ref).set kk (.ref T6))) ab hb6
                    refine ⟨fun c o w1 w2 e => ?_, R6.cong fun i j _ _ => ?_, S6.cong fun i _ => ?_, _, _, _, rfl⟩
                    · rw [upd_ne w2]; exact s6 _ _ (kp5 c o w1 w2 e)
                    · by_cases d : i = kk
                      · subst d; rw [if_pos rfl, skk]
                      · rw [if_neg d, sn i d]
                    · by_cases d : i = kk
                      · subst d; rw [if_pos rfl, skk]
                      · rw [if_neg d, sn i d]
            · rintro σ Hx ⟨kx, hR, hS, y8, y9, y10, rfl⟩
              refine ⟨fun c o w1 w2 e => kx c o w1 w2 (kp c o w1 w2 e), hR.cong fun i j hi _ => ?_, hS.cong fun i hi => ?_, _, _, _, _, _, _, _, _, rfl⟩
              · rw [if_pos (.inr hi)]
              · rw [if_pos (.inr hi)]
    · rintro σ Ho ⟨kp, hR, hS, y3, y4, y5, y6, y7, y8, y9, y10, rfl⟩
      refine ⟨_, rfl, k Ho kp (hS.cong fun i hi => ?_)⟩
      unfold eP dd
      rw [if_pos hi, Int.mul_one]
end
end My

set_option linter.all false
namespace My
open PySem PySem.Spec PyProof.Rows L2
/-! ### dict(zip(keys, values)) -/
def tDz (K : PySem.W.Frag) (ta : TA) : TE := fun σ H Q => ta σ H fun vs H1 => ∃ (a b : Addr) (ks : List Key) (ys : List V), vs = [.ref a, .ref b] ∧ SqL K H1 a (ks.map kV) ∧ SqL K H1 b ys ∧ ks.length = ys.length ∧ ∀ p, H1 p = none → Q (.ref p) (upd H1 p (.dK (mergeK [] (ks.zip ys))))
theorem kv_zip : ∀ {ks : List Key} {ys : List V} {us : List Value}, Vals ys us → KV (ks.zip ys) (ks.zip us)
  | [], _, _, _ => .nil
  | _ :: _, _, _, .nil => .nil
  | _ :: _, _, _, .cons h t => .cons ⟨rfl, h⟩ (kv_zip t)
theorem rel_back : ∀ {xs : List V} {us : List Value}, Vals xs us → ∀ {i : Nat} {u : Value}, us[i]? = some u → ∃ x, xs[i]? = some x ∧ RelV x u
  | _, _, .nil, i, u, h => by simp at h
  | _, _, .cons (a := x) r t, 0, u, h => by
    simp at h; subst h
    exact ⟨x, rfl, r⟩
  | _, _, .cons r t, i + 1, u, h => by
    obtain ⟨x, h1, h2⟩ := rel_back t (i := i) (u := u) (by simpa using h)
    exact ⟨x, by simpa using h1, h2⟩
theorem pe_dictZ {X : Cx} {e e2 : Expr} {ta : TA} {p p2 pos pos2 : Pos} (hc : X.calm = true) (hg : Gl X "dict") (hm : X.mg "dict" = none) (hg2 : Gl X "zip") (hm2 : X.mg "zip" = none) (ha : PA X [e, e2] ta)
    (hs : starEach [e, e2] X.env = (false, eval e X.env) :: starEach [e2] X.env := by rfl) (hpl : (backTo pos2 (starEach [e2] X.env)).any (·.1) = false := by rfl)
    (na : starEach [.Call (.Name "zip" p2) [e, e2] [] pos2] X.env = (false, eval (.Call (.Name "zip" p2) [e, e2] [] pos2) X.env) :: starEach [] X.env := by rfl) :
    PE X (.Call (.Name "dict" p) [.Call (.Name "zip" p2) [e, e2] [] pos2] [] pos) (tDz X.K ta) := by
  refine ⟨fun pins s σ H Q I h => ?_⟩
  refine Call_ (ld_blt I hg hm PyProof.Rows.boot_dict (PyProof.Rows.callWith_type1 (args_cons (Call_ (ld_blt I hg2 hm2 PyProof.Rows.boot_zip (PyProof.Rows.callWith_type1 (thn (ha.run pos2 pins s σ H _ I h) fun us s1 ⟨vs, H1, I1, r1, q1⟩ => ?_) hs hpl))) na) na))
  obtain ⟨a, b, ks, ys, ex, hqx, hqy, lk, q⟩ := q1
  subst ex
  obtain ⟨u1, u2, rfl, ra, rb⟩ := vals2 r1
  cases ra
  cases rb
  obtain ⟨its, rv, p1, z1⟩ := I1.list hqx
  obtain ⟨its2, rv2, p2', z2⟩ := I1.list hqy
  have l1 := rv.length
  have l2 := rv2.length
  rw [List.length_map] at l1 z1
  refine call_zip_2 p1.isList p2'.isList fun h' hz hTI hTO h1 h2 hsz hk => args_nil ?_
  have I2 : Inv X pins σ H1 { s1 with heap := h' } := I1.kept (t' := s1.toks) hk
  refine PySem.call_dict_pairs (knd := mixKind X.prog X.w) (kvs := ks.zip its2) (PairArg.zip (s1.heap.objs.size + 4) (s1.heap.objs.size + 2) (s1.heap.objs.size + 3) s1.heap.objs.size (s1.heap.objs.size + 1) a b (PySem.W.ktu_apart s1.heap.objs.size a b p1.lt p2'.lt) its.toArray its2.toArray) (I.ok.hd hc)
    ⟨hz, hTI, ⟨_, _, hTO⟩, h1, h2, p1.isList.at fun o e => hk _ o e, p2'.isList.at fun o e => hk _ o e⟩ ⟨?_, fun i key v hr => ?_⟩ ?_ fun h'' tk hd' hk2 => ?_
  · rw [List.length_zip, List.size_toArray, List.size_toArray]; omega
  · obtain ⟨e1, e2⟩ := hr
    rw [List.getElem?_toArray] at e1 e2
    obtain ⟨k, hk1, rk⟩ := rel_back rv e1
    obtain ⟨k2, hk3, rfl⟩ : ∃ k2, ks[i]? = some k2 ∧ k = kV k2 := by
      rw [List.getElem?_map] at hk1
      obtain ⟨k2, g1, g2⟩ := Option.map_eq_some_iff.mp hk1
      exact ⟨k2, g1, g2.symm⟩
    refine ⟨k2, ?_, kV_is rk⟩
    rw [List.getElem?_zip_eq_some]
    exact ⟨hk3, e2⟩
  · rw [List.size_toArray, List.size_toArray]; omega
  · have hlen : (mergeK [] (ks.zip ys)).length ≤ sizeLine := by
      refine Nat.le_trans (length_mergeK _ []) ?_
      rw [List.length_nil, Nat.zero_add, List.length_zip]; omega
    have hm3 : (h'.objs.size == sysModules) = false := beq_eq_false_iff_ne.mpr (Nat.ne_of_gt I2.big)
    have new : ObjOk X.prog X.w (upd H1 h'.objs.size (.dK (mergeK [] (ks.zip ys)))) h'' h'.objs.size (.dK (mergeK [] (ks.zip ys))) :=
      ⟨hlen, hm3, merged [] (ks.zip its2), KV.merge (kv_zip rv2) .nil, hd'⟩
    have I3 : Inv X pins σ (upd H1 h'.objs.size (.dK (mergeK [] (ks.zip ys)))) { s1 with heap := h'', toks := tk } :=
      I2.turnedNew (t' := tk) (ch := [s1.heap.objs.size + 4, s1.heap.objs.size + 3, s1.heap.objs.size, s1.heap.objs.size + 1]) (fun c o hc' e => hk2 c o hc' e) (fun c hc' => ?_) (Nat.le_refl _) new
    · exact ⟨.ref h'.objs.size, _, I3, rfl, q _ (I2.hok.fresh (Nat.le_refl _))⟩
    · have hle : s1.heap.objs.size ≤ c := by
        simp only [List.mem_cons, List.not_mem_nil, or_false] at hc'
        rcases hc' with e | e | e | e <;> rw [e]
        · exact Nat.le_add_right _ _
        · exact Nat.le_add_right _ _
        · exact Nat.le_refl _
        · exact Nat.le_add_right _ _
      exact I1.fpOk hle (I1.hok.fresh hle)
end My

set_option linter.all false
namespace My
open PySem PySem.Spec PyProof.Rows L2
/-! ### the law's systems, by sorted names -/
theorem idx_lt {ns : List Str} {x : Str} (h : x ∈ ns) : ns.idxOf x < ns.length := List.idxOf_lt_length_iff.mpr h
theorem idx_get {ns : List Str} {x : Str} (h : x ∈ ns) : ns[ns.idxOf x]? = some x := by rw [List.getElem?_eq_getElem (idx_lt h), List.getElem_idxOf]
theorem idx_at {ns : List Str} (nd : ns.Nodup) {i : Nat} {x : Str} (h : ns[i]? = some x) : ns.idxOf x = i := by
  obtain ⟨hi, rfl⟩ := List.getElem?_eq_some_iff.mp h
  exact nd.idxOf_getElem i hi
theorem idx_eq {ns : List Str} {x y : Str} (hx : x ∈ ns) : ns.idxOf y = ns.idxOf x ↔ y = x := by
  constructor
  · intro h
    have g := idx_get hx
    rw [← h] at g
    have hy : y ∈ ns := List.idxOf_lt_length_iff.mp (List.getElem?_eq_some_iff.mp g).1
    rw [idx_get hy] at g
    exact Option.some.inj g
  · rintro rfl; rfl
def pN (W : Nat) (es : List Ent) (x : Str) : Int := ((es.filter fun e => e.2.1 == x).map fun e => e.2.2.1 * ((W : Int) / e.2.2.2)).sum
theorem partS_tri {ns : List Str} {W : Nat} {x : Str} (hx : x ∈ ns) : ∀ es : List Ent, partS (triS ns W es) (ns.idxOf x) = pN W es x
  | [] => rfl
  | e :: es => by
    have ih := partS_tri (ns := ns) (W := W) hx es
    have e1 : triS ns W (e :: es) = (e.1, ns.idxOf e.2.1, e.2.2.1 * ((W : Int) / e.2.2.2)) :: triS ns W es := rfl
    rw [e1, partS_cons, ih]
    unfold pN
    by_cases c : e.2.1 = x
    · have f : (e :: es).filter (fun e => e.2.1 == x) = e :: es.filter fun e => e.2.1 == x := by rw [List.filter_cons, if_pos (by simpa using c)]
      rw [if_pos ((idx_eq hx).mpr c), f, List.map_cons, List.sum_cons]
    · have f : (e :: es).filter (fun e => e.2.1 == x) = es.filter fun e => e.2.1 == x := by rw [List.filter_cons, if_neg (by simpa using c)]
      rw [if_neg (fun z => c ((idx_eq hx).mp z)), f, Int.zero_add]
theorem sum_names {ns nsS : List Str} (p : nsS.Perm ns) (nd : nsS.Nodup) (f : Nat → Int) : ((List.range nsS.length).map f).sum = ((List.range ns.length).map fun t => f (nsS.idxOf (ns.getD t ""))).sum := by
  have e1 : ((List.range nsS.length).map f) = nsS.map fun x => f (nsS.idxOf x) := by
    rw [← range_getD (fun x => f (nsS.idxOf x)) "" nsS]
    refine List.map_congr_left fun i hi => ?_
    have hi := List.mem_range.mp hi
    rw [getD_at (List.getElem?_eq_getElem hi), idx_at nd (List.getElem?_eq_getElem hi)]
  rw [e1, range_getD (fun x => f (nsS.idxOf x)) "" ns]
  exact sum_perm (p.map _)
def lawA (κ c : Int) (W : Nat) (nsS : List Str) (row : Str → List Ent) (S : Str → Int) (i j : Nat) : Int :=
  if i < nsS.length then if j < nsS.length then κ * ((if i = j then c else 0) - partS (triS nsS W (row (nsS.getD i ""))) j) else if j = nsS.length then S (nsS.getD i "") else 0 else 0
structure LawOk (nsS : List Str) (W : Nat) (row : Str → List Ent) : Prop where
  nn : ∀ x ∈ nsS, ∀ e ∈ triS nsS W (row x), 0 ≤ e.2.2
  num : ∀ x ∈ nsS, ∀ e ∈ triS nsS W (row x), e.2.1 < nsS.length
  tot : ∀ x ∈ nsS, totS (triS nsS W (row x)) = W
  pos : 0 < W
section
variable {κ c : Int} {W : Nat} {nsS : List Str} {row : Str → List Ent} {S : Str → Int}
theorem lawA_at {i j : Nat} {x : Str} (hx : nsS[i]? = some x) (hj : j < nsS.length) : lawA κ c W nsS row S i j = κ * ((if i = j then c else 0) - partS (triS nsS W (row x)) j) := by
  unfold lawA
  rw [if_pos (List.getElem?_eq_some_iff.mp hx).1, if_pos hj, getD_at hx]
theorem lawA_last {i : Nat} {x : Str} (hx : nsS[i]? = some x) : lawA κ c W nsS row S i nsS.length = S x := by
  unfold lawA
  rw [if_pos (List.getElem?_eq_some_iff.mp hx).1, if_neg (Nat.lt_irrefl _), if_pos rfl, getD_at hx]
theorem lawA_zm (h : LawOk nsS W row) (k0 : 0 < κ) (hc : (W : Int) < c) : Dt.Zm nsS.length 0 (lawA κ c W nsS row S) := by
  refine ⟨fun i j _ hi _ hj ne => ?_, fun i _ hi => ?_⟩
  · rw [lawA_at (List.getElem?_eq_getElem hi) hj, if_neg ne]
    have := (partS_le (j := j) (h.nn _ (List.getElem_mem hi))).1
    exact Int.mul_nonpos_of_nonneg_of_nonpos (Int.le_of_lt k0) (by omega)
  · rw [Nat.sub_zero, Dt.rsum_zero]
    rw [Dt.sum_ext (g' := fun j => κ * ((if i = j then c else 0) - partS (triS nsS W (row nsS[i])) j)) fun j hj => lawA_at (List.getElem?_eq_getElem hi) (List.mem_range.mp hj), Dt.sum_mul, Dt.sum_sub, partS_tot (h.num _ (List.getElem_mem hi)), h.tot _ (List.getElem_mem hi), Dt.sum_one (s := i) List.nodup_range (List.mem_range.mpr hi) fun u _ hu => if_neg (Ne.symm hu), if_pos rfl]
    exact Int.mul_pos k0 (by omega)
theorem lawA_le {N : Nat} (h : LawOk nsS W row) (k0 : 0 < κ) (c0 : 0 ≤ c) (hN : κ.natAbs * (c.natAbs + W) ≤ N) (hS : ∀ x ∈ nsS, (S x).natAbs ≤ N) (i j : Nat) : (lawA κ c W nsS row S i j).natAbs ≤ N := by
  by_cases hi : i < nsS.length
  · by_cases hj : j < nsS.length
    · rw [lawA_at (List.getElem?_eq_getElem hi) hj, Int.natAbs_mul]
      refine Nat.le_trans (Nat.mul_le_mul_left _ ?_) hN
      obtain ⟨p1, p2⟩ := partS_le (j := j) (h.nn _ (List.getElem_mem hi))
      rw [h.tot _ (List.getElem_mem hi)] at p2
      split <;> omega
    · by_cases d : j = nsS.length
      · subst d; rw [lawA_last (List.getElem?_eq_getElem hi)]; exact hS _ (List.getElem_mem hi)
      · unfold lawA
        rw [if_pos hi, if_neg hj, if_neg d]; exact Nat.zero_le _
  · unfold lawA
    rw [if_neg hi]; exact Nat.zero_le _
/-- the law's solution, by the names in the book's order -/
theorem perm_sol {ns : List Str} (p : nsS.Perm ns) (nd : nsS.Nodup) (h : LawOk nsS W row) (k0 : 0 < κ) (hc : (W : Int) < c) {i : Nat} {x : Str} (hx : ns[i]? = some x) :
    ((List.range ns.length).map fun t => ((if i = t then c else 0) - pN W (row x) (ns.getD t "")) * (κ * Dt.mS (lawA κ c W nsS row S) nsS.length (nsS.idxOf (ns.getD t "")) nsS.length)).sum = Dt.md (lawA κ c W nsS row S) nsS.length * S x := by
  have ndn : ns.Nodup := (p.nodup_iff).mp nd
  have mx : x ∈ nsS := p.mem_iff.mpr (List.mem_of_getElem? hx)
  have z := (lawA_zm (S := S) h k0 hc).sol (idx_lt mx) nsS.length
  rw [lawA_last (idx_get mx), sum_names p nd] at z
  rw [← z]
  refine Dt.sum_ext fun t ht => ?_
  have ht := List.mem_range.mp ht
  have gt := List.getElem?_eq_getElem ht
  have my : ns[t] ∈ nsS := p.mem_iff.mpr (List.getElem_mem ht)
  rw [getD_at gt, lawA_at (idx_get mx) (idx_lt my), partS_tri my]
  have e : (nsS.idxOf x = nsS.idxOf ns[t]) ↔ (i = t) := by
    rw [idx_eq my]
    constructor
    · intro q
      exact (List.getElem?_inj (List.getElem?_eq_some_iff.mp hx).1 ndn).mp (hx.trans ((congrArg some q).trans gt.symm))
    · rintro rfl
      rw [gt] at hx; exact (Option.some.inj hx).symm
  have e2 : (if nsS.idxOf x = nsS.idxOf ns[t] then c else 0) = if i = t then c else 0 := by
    by_cases d : i = t
    · rw [if_pos d, if_pos (e.mpr d)]
    · rw [if_neg d, if_neg (fun z => d (e.mp z))]
  rw [e2]
  ac_rfl
end
section
variable {b : Int} {ns nsS : List Str} {Rw : List (List Ent)} {B : Nat}
def rowOf (ns : List Str) (Rw : List (List Ent)) (x : Str) : List Ent := Rw.getD (ns.idxOf x) []
theorem rowOf_at (h : BkOk b ns Rw B) {x : Str} (hx : x ∈ ns) : Rw[ns.idxOf x]? = some (rowOf ns Rw x) := by
  have hi := idx_lt hx
  rw [h.nlen] at hi
  unfold rowOf
  rw [List.getElem?_eq_getElem hi, getD_at (List.getElem?_eq_getElem hi)]
theorem rowOf_mem (h : BkOk b ns Rw B) {x : Str} (hx : x ∈ ns) : rowOf ns Rw x ∈ Rw := List.mem_of_getElem? (rowOf_at h hx)
/-- the parts of a row come to the whole, whatever the names' order -/
theorem totS_tri (ns nsS : List Str) (W : Nat) (es : List Ent) : totS (triS nsS W es) = totS (triS ns W es) := by
  unfold totS triS
  rw [List.map_map, List.map_map]; rfl
theorem BkOk.law (h : BkOk b ns Rw B) (p : nsS.Perm ns) : LawOk nsS (wholeS Rw) (rowOf ns Rw) := by
  refine ⟨fun x hx e he => ?_, fun x hx e he => ?_, fun x hx => ?_, (whole_le h.ent).1⟩
  · obtain ⟨e1, g2, rfl⟩ := List.mem_map.mp he
    obtain ⟨_, _, _, p1, _, p2, _⟩ := (h.ent.row _ (rowOf_mem h (p.mem_iff.mp hx))).2 e1 g2
    exact Int.mul_nonneg (Int.le_of_lt p1) (Int.ediv_nonneg (Int.natCast_nonneg _) (Int.le_of_lt p2))
  · obtain ⟨e1, g2, rfl⟩ := List.mem_map.mp he
    exact idx_lt (p.mem_iff.mpr ((h.ent.row _ (rowOf_mem h (p.mem_iff.mp hx))).2 e1 g2).2.2.1)
  · rw [totS_tri ns nsS]
    exact h.one _ (rowOf_mem h (p.mem_iff.mp hx))
def lS1 (ns : List Str) (Rw : List (List Ent)) (x : Str) : Int := meanS (triS ns (wholeS Rw) (rowOf ns Rw x))
abbrev lA1 (b : Int) (ns nsS : List Str) (Rw : List (List Ent)) : Nat → Nat → Int := lawA 1 (b * (wholeS Rw : Nat)) (wholeS Rw) nsS (rowOf ns Rw) (lS1 ns Rw)
def lT (b : Int) (ns nsS : List Str) (Rw : List (List Ent)) (x : Str) : Int := Dt.mS (lA1 b ns nsS Rw) nsS.length (nsS.idxOf x) nsS.length
def lB (b : Int) (ns nsS : List Str) (Rw : List (List Ent)) : Int := Dt.md (lA1 b ns nsS Rw) nsS.length
theorem prog_at (h : BkOk b ns Rw B) (nd : ns.Nodup) {c : Int} {S : List Int} {i t : Nat} {x : Str} (hx : ns[i]? = some x) (ht : t < ns.length) : sysA c (rowsR ns Rw) S i t = (if i = t then c else 0) - pN (wholeS Rw) (rowOf ns Rw x) (ns.getD t "") := by
  have e : (rowsR ns Rw).length = ns.length := by rw [rowsR_len, h.nlen]
  have gt := List.getElem?_eq_getElem ht
  have hr : (rowsR ns Rw)[i]? = some (triS ns (wholeS Rw) (rowOf ns Rw x)) := by
    rw [List.getElem?_map]
    have := rowOf_at h (List.mem_of_getElem? hx)
    rw [idx_at nd hx] at this
    rw [this]; rfl
  unfold sysA
  rw [if_pos (by rw [e]; exact ht), getD_at hr, getD_at gt]
  have := partS_tri (W := wholeS Rw) (List.getElem_mem ht) (rowOf ns Rw x)
  rw [idx_at nd gt] at this
  rw [this]
/-- the program's system, solved -/
theorem prog_sol (h : BkOk b ns Rw B) (nd : ns.Nodup) {c : Int} {S : List Int} (hc : ((wholeS Rw : Nat) : Int) < c) {i : Nat} {x : Str} (hx : ns[i]? = some x) :
    ((List.range (rowsR ns Rw).length).map fun t => sysA c (rowsR ns Rw) S i t * Dt.mS (sysA c (rowsR ns Rw) S) (rowsR ns Rw).length t (rowsR ns Rw).length).sum = Dt.md (sysA c (rowsR ns Rw) S) (rowsR ns Rw).length * S.getD i 0 := by
  have e : (rowsR ns Rw).length = ns.length := by rw [rowsR_len, h.nlen]
  have z := (sys_zm (S := S) h.rows hc).sol (i := i) (by rw [e]; exact (List.getElem?_eq_some_iff.mp hx).1) (rowsR ns Rw).length
  rw [z]
  congr 1
  unfold sysA
  rw [if_neg (Nat.lt_irrefl _), if_pos rfl]
/-- both, told apart by nothing -/
theorem both_sol (h : BkOk b ns Rw B) (nd : ns.Nodup) (p : nsS.Perm ns) {κ ρ c : Int} {S : List Int} {S' : Str → Int} (k0 : 0 < κ) (hc : ((wholeS Rw : Nat) : Int) < c) (hS : ∀ (i : Nat) (x : Str), ns[i]? = some x → S' x * ρ = κ * S.getD i 0) {x : Str} (hx : x ∈ ns) :
    Dt.md (lawA κ c (wholeS Rw) nsS (rowOf ns Rw) S') nsS.length * Dt.mS (sysA c (rowsR ns Rw) S) (rowsR ns Rw).length (ns.idxOf x) (rowsR ns Rw).length = Dt.md (sysA c (rowsR ns Rw) S) (rowsR ns Rw).length * (Dt.mS (lawA κ c (wholeS Rw) nsS (rowOf ns Rw) S') nsS.length (nsS.idxOf x) nsS.length * ρ) := by
  have e : (rowsR ns Rw).length = ns.length := by rw [rowsR_len, h.nlen]
  have ndS := p.nodup_iff.mpr nd
  have u := (sys_zm (S := S) h.rows hc).uniq (x := fun t => Dt.mS (sysA c (rowsR ns Rw) S) (rowsR ns Rw).length t (rowsR ns Rw).length) (y := fun t => Dt.mS (lawA κ c (wholeS Rw) nsS (rowOf ns Rw) S') nsS.length (nsS.idxOf (ns.getD t "")) nsS.length * ρ) (b := fun i => S.getD i 0)
    (d := Dt.md (sysA c (rowsR ns Rw) S) (rowsR ns Rw).length) (q := Dt.md (lawA κ c (wholeS Rw) nsS (rowOf ns Rw) S') nsS.length) (fun i hi => ?_) (fun i hi => ?_) (ns.idxOf x) (by rw [e]; exact idx_lt hx)
  · rw [getD_at (idx_get hx)] at u
    exact u
  · rw [e] at hi
    exact prog_sol h nd hc (List.getElem?_eq_getElem hi)
  · rw [e] at hi
    have gi := List.getElem?_eq_getElem hi
    have z := perm_sol (S := S') p ndS (h.law p) k0 hc gi
    have hs := hS i _ gi
    refine Int.eq_of_mul_eq_mul_left (Int.ne_of_gt k0) ?_
    have l : κ * ((List.range (rowsR ns Rw).length).map fun t => sysA c (rowsR ns Rw) S i t * (Dt.mS (lawA κ c (wholeS Rw) nsS (rowOf ns Rw) S') nsS.length (nsS.idxOf (ns.getD t "")) nsS.length * ρ)).sum = ρ * ((List.range ns.length).map fun t => ((if i = t then c else 0) - pN (wholeS Rw) (rowOf ns Rw ns[i]) (ns.getD t "")) * (κ * Dt.mS (lawA κ c (wholeS Rw) nsS (rowOf ns Rw) S') nsS.length (nsS.idxOf (ns.getD t "")) nsS.length)).sum := by
      rw [e, ← Dt.sum_mul, ← Dt.sum_mul]
      refine Dt.sum_ext fun t ht => ?_
      rw [prog_at h nd gi (List.mem_range.mp ht)]
      ac_rfl
    rw [l, z]
    have r : κ * (Dt.md (lawA κ c (wholeS Rw) nsS (rowOf ns Rw) S') nsS.length * S.getD i 0) = Dt.md (lawA κ c (wholeS Rw) nsS (rowOf ns Rw) S') nsS.length * (κ * S.getD i 0) := by ac_rfl
    rw [r, ← hs]
    ac_rfl
theorem bw_lt (h : BkOk b ns Rw B) : ((wholeS Rw : Nat) : Int) < b * (wholeS Rw : Nat) ∧ ((wholeS Rw : Nat) : Int) < b * b * (wholeS Rw : Nat) := by
  have w := (whole_le h.ent).1
  have b2 := h.b2
  have h1 := Int.mul_le_mul_of_nonneg_right b2 (show (0 : Int) ≤ (wholeS Rw : Nat) by omega)
  have h2 := Int.mul_le_mul_of_nonneg_right (Int.mul_le_mul b2 b2 (by omega) (by omega)) (show (0 : Int) ≤ (wholeS Rw : Nat) by omega)
  exact ⟨by omega, by omega⟩
theorem row_getD (h : BkOk b ns Rw B) (nd : ns.Nodup) (g : List Tri → Int) {i : Nat} {x : Str} (hx : ns[i]? = some x) : ((rowsR ns Rw).map g).getD i 0 = g (triS ns (wholeS Rw) (rowOf ns Rw x)) := by
  have := rowOf_at h (List.mem_of_getElem? hx)
  rw [idx_at nd hx] at this
  refine getD_at ?_
  rw [List.getElem?_map, List.getElem?_map, this]; rfl
theorem mTop_eq (h : BkOk b ns Rw B) {x : Str} (hx : x ∈ ns) : mTop b ns Rw x = Dt.mS (mA1 b ns Rw) (rowsR ns Rw).length (ns.idxOf x) (rowsR ns Rw).length := by
  unfold mTop topsS
  refine getD_at ?_
  rw [List.getElem?_map, List.getElem?_range (by rw [rowsR_len, ← h.nlen]; exact idx_lt hx)]; rfl
theorem sqr_eq (h : BkOk b ns Rw B) {x : Str} (hx : x ∈ ns) : (sqrsS b ns Rw).getD (ns.idxOf x) 0 = Dt.mS (mA2 b ns Rw) (rowsR ns Rw).length (ns.idxOf x) (rowsR ns Rw).length := by
  unfold sqrsS
  refine getD_at ?_
  rw [List.getElem?_map, List.getElem?_range (by rw [rowsR_len, ← h.nlen]; exact idx_lt hx)]; rfl
theorem lB_pos (h : BkOk b ns Rw B) (p : nsS.Perm ns) : 0 < lB b ns nsS Rw := ((lawA_zm (S := lS1 ns Rw) (h.law p) (by decide) (bw_lt h).1).all _ (Nat.le_refl _)).2.1
theorem mean_cross (h : BkOk b ns Rw B) (nd : ns.Nodup) (p : nsS.Perm ns) {x : Str} (hx : x ∈ ns) : lB b ns nsS Rw * mTop b ns Rw x = botS b ns Rw * lT b ns nsS Rw x := by
  have := both_sol h nd p (κ := 1) (ρ := 1) (S := (rowsR ns Rw).map meanS) (S' := lS1 ns Rw) (by decide) (bw_lt h).1 (fun i x hx => by rw [row_getD h nd meanS hx, Int.mul_one, Int.one_mul]; rfl) hx
  rw [Int.mul_one] at this
  rw [mTop_eq h hx]
  exact this
/-- the law's mean is the program's -/
theorem mean_same (h : BkOk b ns Rw B) (nd : ns.Nodup) (p : nsS.Perm ns) {x : Str} (hx : x ∈ ns) : lowP (lT b ns nsS Rw x) (lB b ns nsS Rw) = lowP (mTop b ns Rw x) (botS b ns Rw) := by
  refine low_eq (lB_pos h p) h.tops.2.2 ?_
  have := mean_cross h nd p hx
  rw [Int.mul_comm, ← this, Int.mul_comm]
def lS2 (b : Int) (ns nsS : List Str) (Rw : List (List Ent)) (x : Str) : Int := ((rowOf ns Rw x).map fun e => e.2.2.1 * (((wholeS Rw : Nat) : Int) / e.2.2.2) * (e.1 * e.1 * lB b ns nsS Rw + 2 * e.1 * lT b ns nsS Rw e.2.1)).sum
abbrev lA2 (b : Int) (ns nsS : List Str) (Rw : List (List Ent)) : Nat → Nat → Int := lawA (lB b ns nsS Rw) (b * b * (wholeS Rw : Nat)) (wholeS Rw) nsS (rowOf ns Rw) (lS2 b ns nsS Rw)
theorem sum_pair {α : Type} {f g : α → Int} {r k : Int} : ∀ {l : List α}, (∀ e ∈ l, f e * r = k * g e) → (l.map f).sum * r = k * (l.map g).sum
  | [], _ => by simp
  | e :: l, h => by
    rw [List.map_cons, List.map_cons, List.sum_cons, List.sum_cons, Int.add_mul, Int.mul_add, h e List.mem_cons_self, sum_pair fun x hx => h x (List.mem_cons_of_mem _ hx)]
theorem lS2_scale (h : BkOk b ns Rw B) (nd : ns.Nodup) (p : nsS.Perm ns) {x : Str} (hx : x ∈ ns) : lS2 b ns nsS Rw x * botS b ns Rw = lB b ns nsS Rw * sqS (topsS b ns Rw) (botS b ns Rw) (triS ns (wholeS Rw) (rowOf ns Rw x)) := by
  unfold lS2 sqS triS
  rw [List.map_map]
  refine sum_pair fun e he => ?_
  have hn := ((h.ent.row _ (rowOf_mem h hx)).2 e he).2.2.1
  have mc := mean_cross h nd p hn
  show e.2.2.1 * (((wholeS Rw : Nat) : Int) / e.2.2.2) * (e.1 * e.1 * lB b ns nsS Rw + 2 * e.1 * lT b ns nsS Rw e.2.1) * botS b ns Rw = lB b ns nsS Rw * (e.2.2.1 * (((wholeS Rw : Nat) : Int) / e.2.2.2) * (e.1 * e.1 * botS b ns Rw + 2 * e.1 * mTop b ns Rw e.2.1))
  generalize e.2.2.1 * (((wholeS Rw : Nat) : Int) / e.2.2.2) = q
  generalize lB b ns nsS Rw = u at mc ⊢
  generalize botS b ns Rw = v at mc ⊢
  generalize lT b ns nsS Rw e.2.1 = t at mc ⊢
  generalize mTop b ns Rw e.2.1 = m at mc ⊢
  generalize e.1 = d
  rw [Int.mul_add, Int.mul_add, Int.add_mul, Int.mul_add]
  have l1 : q * (d * d * u) * v = u * (q * (d * d * v)) := by ac_rfl
  have l2 : q * (2 * d * t) * v = q * (2 * d) * (v * t) := by ac_rfl
  have l3 : u * (q * (2 * d * m)) = q * (2 * d) * (u * m) := by ac_rfl
  rw [l1, l2, l3, mc]
/-- the law's squares are the program's -/
theorem sq_same (h : BkOk b ns Rw B) (nd : ns.Nodup) (p : nsS.Perm ns) {x : Str} (hx : x ∈ ns) : lowP (Dt.mS (lA2 b ns nsS Rw) nsS.length (nsS.idxOf x) nsS.length) (Dt.md (lA2 b ns nsS Rw) nsS.length) = lowP ((sqrsS b ns Rw).getD (ns.idxOf x) 0) (sizeS b ns Rw) := by
  have bp := lB_pos h p
  have pos := ((lawA_zm (S := lS2 b ns nsS Rw) (h.law p) bp (bw_lt h).2).all _ (Nat.le_refl _)).2.1
  have z := both_sol h nd p (κ := lB b ns nsS Rw) (ρ := botS b ns Rw) (S := (rowsR ns Rw).map (sqS (topsS b ns Rw) (botS b ns Rw))) (S' := lS2 b ns nsS Rw) bp (bw_lt h).2 (fun i x hx => by rw [row_getD h nd _ hx]; exact lS2_scale h nd p (List.mem_of_getElem? hx)) hx
  refine low_eq pos h.sqrs.2.2 ?_
  rw [sqr_eq h hx]
  unfold sizeS
  have l : Dt.mS (lA2 b ns nsS Rw) nsS.length (nsS.idxOf x) nsS.length * (Dt.md (mA2 b ns Rw) (rowsR ns Rw).length * botS b ns Rw) = Dt.md (mA2 b ns Rw) (rowsR ns Rw).length * (Dt.mS (lA2 b ns nsS Rw) nsS.length (nsS.idxOf x) nsS.length * botS b ns Rw) := by ac_rfl
  rw [l, ← z, Int.mul_comm]
end
end My

set_option linter.all false
namespace My
open PySem PySem.Spec PyProof.Rows L2
/-! ### the law's means and squares -/
theorem merge_app : ∀ (l acc : List (Key × V)), ((acc ++ l).map (·.1)).Nodup → mergeK acc l = acc ++ l
  | [], acc, _ => by rw [List.append_nil]; rfl
  | e :: l, acc, h => by
    have h1 : putK acc e.1 e.2 = acc ++ [e] := by
      unfold putK
      rw [if_neg]
      intro z
      obtain ⟨kv, g1, g2⟩ := List.any_eq_true.mp z
      rw [List.map_append, List.nodup_append] at h
      exact h.2.2 kv.1 (List.mem_map.mpr ⟨kv, g1, rfl⟩) e.1 (by simp) (by simpa using g2)
    show mergeK (putK acc e.1 e.2) l = _
    rw [h1, merge_app l (acc ++ [e]) (by rw [List.append_assoc]; exact h), List.append_assoc]; rfl
theorem sys_2080 {A : Nat → Nat → Int} {n : Nat} (h : ∀ i j, (A i j).natAbs ≤ 2 ^ 293) (hn : n ≤ 6) : (∀ k i j, k ≤ n → (Dt.mS A k i j).natAbs < 2 ^ 2080) ∧ ∀ k, k ≤ n → (Dt.md A k).natAbs < 2 ^ 2080 := by
  have up : ∀ m, m ≤ 7 → 2 ^ (m * (293 + 3)) < 2 ^ 2080 := fun m hm => Nat.pow_lt_pow_right (by decide) (Nat.lt_of_le_of_lt (Nat.mul_le_mul_right _ hm) (by decide))
  exact ⟨fun k i j hk => Nat.lt_of_le_of_lt (Nat.le_trans (Dt.mS_le h (Nat.one_le_two_pow) k i j) (dbd_pow (k + 1) (by omega))) (up _ (by omega)),
    fun k hk => Nat.lt_of_le_of_lt (Nat.le_trans (Dt.md_le h k) (dbd_pow k (by omega))) (up _ (by omega))⟩
def spLbm : Sp := fun vs H Q _ => ∃ (rr : Addr) (b : Int) (ns : List Str) (Rw : List (List Ent)) (B : Nat) (kvs : List (Key × V)) (qs : List Addr), vs = [.int b, .ref rr] ∧ Rd H rr (.dK kvs) ∧ kvs.map (·.1) = ns.map Sum.inr ∧ kvs.map (·.2) = qs.map V.ref ∧ (∀ (i : Nat) (q : Addr) (es : List Ent), qs[i]? = some q → Rw[i]? = some es → RowT H q es) ∧ BkOk b ns Rw B ∧ ns.Nodup ∧
  ∀ (T Mm Ss : Addr) (kM kS : List (Key × V)) (H' : Hp), Same H H' → H' T = some (.tup [.ref Mm, .ref Ss]) → H' Mm = some (.dK kM) → H' Ss = some (.dK kS) →
    (∀ x ∈ ns, ∃ t, valV kM (Sum.inr x) = some (.ref t) ∧ H' t = some (pV (lowP (mTop b ns Rw x) (botS b ns Rw)))) → (∀ x ∈ ns, ∃ t, valV kS (Sum.inr x) = some (.ref t) ∧ H' t = some (pV (lowP ((sqrsS b ns Rw).getD (ns.idxOf x) 0) (sizeS b ns Rw)))) → Q (.ref T) H'
theorem low_is {x y a c : Int} (hy : 0 < y) (hc : 0 < c) (cop : Nat.gcd x.natAbs y.natAbs = 1) (e : x * c = a * y) : lowP a c = (x, y) := by
  have q := low_cross (a := a) hc
  obtain ⟨h1, h2⟩ := cop_uniq (low_pos (a := a) hc) hy (low_cop hc) cop (by
    refine Int.eq_of_mul_eq_mul_right (Int.ne_of_gt hc) ?_
    have l : (lowP a c).1 * y * c = (lowP a c).1 * c * y := by ac_rfl
    have r : x * (lowP a c).2 * c = x * c * (lowP a c).2 := by ac_rfl
    rw [l, r, q, e]
    ac_rfl)
  exact Prod.ext h1 h2
theorem add_frac {P c u v R : Int} (c0 : 0 < c) (v0 : 0 < v) (e : u * c = R * v) : lowP ((lowP P c).1 * v + u * (lowP P c).2) ((lowP P c).2 * v) = lowP (P + R) c := by
  have q := low_cross (a := P) c0
  have y0 := low_pos (a := P) c0
  refine low_eq (Int.mul_pos y0 v0) c0 ?_
  generalize (lowP P c).1 = x at q ⊢
  generalize (lowP P c).2 = y at q ⊢
  rw [Int.add_mul, Int.add_mul]
  have l1 : x * v * c = x * c * v := by ac_rfl
  have l2 : u * y * c = u * c * y := by ac_rfl
  have r1 : P * (y * v) = P * y * v := by ac_rfl
  have r2 : R * (y * v) = R * v * y := by ac_rfl
  rw [l1, l2, r1, r2, q, e]
theorem list_choose {α : Type} {Pr : α → Addr → Prop} : ∀ {l : List α}, (∀ y ∈ l, ∃ t, Pr y t) → ∃ ts : List Addr, ts.length = l.length ∧ ∀ (i : Nat) (y : α) (t : Addr), l[i]? = some y → ts[i]? = some t → Pr y t
  | [], _ => ⟨[], rfl, fun i y t h => by simp at h⟩
  | y :: l, h => by
    obtain ⟨t, ht⟩ := h y List.mem_cons_self
    obtain ⟨ts, h1, h2⟩ := list_choose (l := l) fun z hz => h z (List.mem_cons_of_mem _ hz)
    refine ⟨t :: ts, by rw [List.length_cons, List.length_cons, h1], fun i z u g1 g2 => ?_⟩
    cases i with
    | zero => cases g1; cases g2; exact ht
    | succ i => exact h2 i z u (by simpa using g1) (by simpa using g2)
theorem whole_dvd {Rw : List (List Ent)} {es : List Ent} {e : Ent} (h1 : es ∈ Rw) (h2 : e ∈ es) : e.2.2.2.natAbs ∣ wholeS Rw := (dv_lcm (allS Rw) 1).2 e.2.2 (List.mem_flatten.mpr ⟨shS es, List.mem_map.mpr ⟨es, h1, rfl⟩, List.mem_map.mpr ⟨e, h2, rfl⟩⟩)
theorem part_mul {W : Nat} {s1 : Int} (h : s1.natAbs ∣ W) (h1 : 0 < s1) : s1 * ((W : Int) / s1) = W := Int.mul_ediv_cancel' (Int.natAbs_dvd.mp (Int.ofNat_dvd.mpr h))
theorem pN_snoc (W : Nat) (es : List Ent) (e : Ent) (y : Str) : pN W (es ++ [e]) y = pN W es y + (if e.2.1 = y then e.2.2.1 * ((W : Int) / e.2.2.2) else 0) := by
  unfold pN
  rw [List.filter_append, List.map_append, List.sum_append]
  congr 1
  by_cases c : e.2.1 = y
  · rw [if_pos c, List.filter_cons, if_pos (by simpa using c)]; simp
  · rw [if_neg c, List.filter_cons, if_neg (by simpa using c)]; simp
theorem sum_bd {α : Type} {f : α → Int} {M : Nat} : ∀ {l : List α}, (∀ e ∈ l, (f e).natAbs ≤ M) → ((l.map f).sum).natAbs ≤ l.length * M
  | [], _ => by simp
  | e :: l, h => by
    rw [List.map_cons, List.sum_cons, List.length_cons, Nat.add_mul, Nat.one_mul, Nat.add_comm]
    exact Nat.le_trans (Int.natAbs_add_le _ _) (Nat.add_le_add (h e List.mem_cons_self) (sum_bd fun x hx => h x (List.mem_cons_of_mem _ hx)))
theorem pN_bd {W : Nat} {es : List Ent} {y : Str} {M : Nat} (h : ∀ e ∈ es, (e.2.2.1 * ((W : Int) / e.2.2.2)).natAbs ≤ M) : (pN W es y).natAbs ≤ es.length * M := Nat.le_trans (sum_bd fun e he => h e (List.mem_filter.mp he).1) (Nat.mul_le_mul_right _ (List.length_filter_le _ _))
def RowD (H : Hp) (R : Addr) (nsS : List Str) (m : Nat) (g : Str → Int × Int) : Prop := ∃ kv : List (Key × V), H R = some (.dK kv) ∧ kv.length ≤ m ∧ ∀ y ∈ nsS, ∃ t, valV kv (Sum.inr y) = some (.ref t) ∧ H t = some (pV (g y))
theorem pV_neD {H : Hp} {t R : Addr} {p : Int × Int} {kv : List (Key × V)} (h : H t = some (pV p)) (hR : H R = some (.dK kv)) : t ≠ R := fun z => by
  rw [z, hR] at h; cases h
theorem RowD.put {H : Hp} {R T : Addr} {nsS : List Str} {m : Nat} {g : Str → Int × Int} {z : Str} {q : Int × Int} {kv : List (Key × V)} (hR : H R = some (.dK kv)) (hl : kv.length ≤ m) (hg : ∀ y ∈ nsS, ∃ t, valV kv (Sum.inr y) = some (.ref t) ∧ H t = some (pV (g y))) (hT : H T = some (pV q)) : RowD (upd H R (.dK (putK kv (Sum.inr z) (.ref T)))) R nsS (m + 1) fun y => if y = z then q else g y := by
  refine ⟨_, upd_same, by have := length_putK kv (Sum.inr z : Key) (.ref T); omega, fun y hy => ?_⟩
  by_cases c : y = z
  · subst c
    refine ⟨T, by rw [valV_put, if_pos rfl], ?_⟩
    dsimp only
    rw [upd_ne (pV_neD hT hR), if_pos rfl]; exact hT
  · obtain ⟨t, h1, h2⟩ := hg y hy
    refine ⟨t, by rw [valV_put, if_neg (fun z => c (by injection z))]; exact h1, ?_⟩
    dsimp only
    rw [upd_ne (pV_neD h2 hR), if_neg c]; exact h2
theorem RowD.cong {H : Hp} {R : Addr} {nsS : List Str} {m : Nat} {g g' : Str → Int × Int} (h : RowD H R nsS m g) (e : ∀ y ∈ nsS, g y = g' y) : RowD H R nsS m g' := by
  obtain ⟨kv, h1, h2, h3⟩ := h
  exact ⟨kv, h1, h2, fun y hy => by rw [← e y hy]; exact h3 y hy⟩
theorem RowD.same {H H' : Hp} {R : Addr} {nsS : List Str} {m : Nat} {g : Str → Int × Int} (h : RowD H R nsS m g) (s : Same H H') : RowD H' R nsS m g := by
  obtain ⟨kv, h1, h2, h3⟩ := h
  exact ⟨kv, s _ _ h1, h2, fun y hy => by obtain ⟨t, w1, w2⟩ := h3 y hy; exact ⟨t, w1, s _ _ w2⟩⟩
theorem eP_row {κ c den : Int} {W : Nat} {nsS : List Str} {row : Str → List Ent} {S : Str → Int} {i t : Nat} {x y : Str} (nd : nsS.Nodup) (hx : nsS[i]? = some x) (hy : nsS[t]? = some y) (k0 : 0 < κ) (c0 : 0 < c) (hden : den = κ * c) : eP (lawA κ c W nsS row S) den 0 i t = lowP ((if y = x then c else 0) - pN W (row x) y) c := by
  have ht := (List.getElem?_eq_some_iff.mp hy).1
  have e1 := partS_tri (ns := nsS) (W := W) (List.mem_of_getElem? hy) (row x)
  rw [idx_at nd hy] at e1
  have e2 : (if i = t then c else 0) = if y = x then c else 0 := by
    by_cases d : i = t
    · subst d
      rw [hx] at hy
      rw [if_pos rfl, if_pos (Option.some.inj hy).symm]
    · rw [if_neg d, if_neg (fun z => d ((List.getElem?_inj (List.getElem?_eq_some_iff.mp hx).1 nd).mp (hx.trans ((congrArg some z.symm).trans hy.symm))))]
  unfold eP dd
  rw [Dt.mS_zero, Dt.md_zero, if_neg (Nat.not_lt_zero _), Int.one_mul, lawA_at hx ht, e1, e2, hden]
  refine low_eq (Int.mul_pos k0 c0) c0 ?_
  rw [Int.mul_comm κ, Int.mul_assoc]
theorem eP_last {κ c den : Int} {W : Nat} {nsS : List Str} {row : Str → List Ent} {S : Str → Int} {i : Nat} {x : Str} (hx : nsS[i]? = some x) : eP (lawA κ c W nsS row S) den 0 i nsS.length = lowP (S x) den := by
  unfold eP dd
  rw [Dt.mS_zero, Dt.md_zero, if_neg (Nat.not_lt_zero _), Int.one_mul, lawA_last hx]
theorem goHeap {H H' : Hp} {Pr : Hp → Prop} (e : H = H') (h : Pr H) : Pr H' := e ▸ h
theorem inner_eq {d T L : Int} (L0 : 0 < L) : lowP (d * d * (lowP T L).2 + 2 * d * (lowP T L).1 * 1) (1 * (lowP T L).2) = lowP (d * d * L + 2 * d * T) L := by
  have q := low_cross (a := T) L0
  have y0 := low_pos (a := T) L0
  refine low_eq (by rw [Int.one_mul]; exact y0) L0 ?_
  generalize (lowP T L).1 = x at q ⊢
  generalize (lowP T L).2 = y at q ⊢
  rw [Int.mul_one, Int.one_mul, Int.add_mul, Int.add_mul]
  have l1 : 2 * d * x * L = 2 * d * (x * L) := by ac_rfl
  have l2 : d * d * y * L = d * d * L * y := by ac_rfl
  rw [l1, l2, q]
  congr 1
  ac_rfl
theorem paired_at {α β : Type} {Pr : α → β → Prop} : ∀ {xs : List α} {ys : List β}, xs.length = ys.length → (∀ (i : Nat) (x : α) (y : β), xs[i]? = some x → ys[i]? = some y → Pr x y) → Paired Pr xs ys
  | [], [], _, _ => .nil
  | [], _ :: _, h, _ => by simp at h
  | _ :: _, [], h, _ => by simp at h
  | x :: xs, y :: ys, h, f => .cons (f 0 x y rfl rfl) (paired_at (by simpa using h) fun i a b h1 h2 => f (i + 1) a b (by simpa using h1) (by simpa using h2))
theorem inr_nodup {l : List Str} (h : l.Nodup) : (l.map (Sum.inr : Str → Key)).Nodup := List.Pairwise.map _ (fun a b ne z => ne (by injection z)) h
theorem zip_val {nsS : List Str} {us : List Addr} (nd : nsS.Nodup) (l : us.length = nsS.length) {i : Nat} {y : Str} {u : Addr} (hy : nsS[i]? = some y) (hu : us[i]? = some u) : valV (mergeK [] ((nsS.map (Sum.inr : Str → Key)).zip (us.map V.ref))) (Sum.inr y) = some (.ref u) := by
  have keys : (((nsS.map (Sum.inr : Str → Key)).zip (us.map V.ref)).map (·.1)) = nsS.map Sum.inr := by
    rw [List.map_fst_zip]
    rw [List.length_map, List.length_map]; omega
  rw [merge_app _ [] (by rw [List.nil_append, keys]; exact inr_nodup nd), List.nil_append]
  refine valV_mem (by rw [keys]; exact inr_nodup nd) ?_
  refine List.mem_of_getElem? (i := i) ?_
  rw [List.getElem?_zip_eq_some]
  exact ⟨by rw [List.getElem?_map, hy]; rfl, by rw [List.getElem?_map, hu]; rfl⟩
section
variable {b : Int} {ns nsS : List Str} {Rw : List (List Ent)} {B : Nat}
theorem law_b1 (h : BkOk b ns Rw B) (p : nsS.Perm ns) : (∀ i j, (lA1 b ns nsS Rw i j).natAbs ≤ 2 ^ 40) ∧ (∀ x, (lT b ns nsS Rw x).natAbs ≤ 2 ^ 250 ∨ x ∉ ns) ∧ (lB b ns nsS Rw).natAbs ≤ 2 ^ 250 := by
  have w := whole_le h.ent
  have B36 := h.B36
  have b2 := h.b2
  have b10 := h.b10
  have n6 : nsS.length ≤ 6 := by rw [p.length_eq, h.nlen]; exact h.len
  have L := h.law p
  have bw : b * (wholeS Rw : Nat) ≤ 10 * ((wholeS Rw : Nat) : Int) := Int.mul_le_mul_of_nonneg_right b10 (by omega)
  have bw0 : 0 ≤ b * ((wholeS Rw : Nat) : Int) := Int.mul_nonneg (by omega) (by omega)
  have le : ∀ i j, (lA1 b ns nsS Rw i j).natAbs ≤ 2 ^ 40 := lawA_le L (by decide) bw0 (by
    show 1 * _ ≤ _
    omega) fun x hx => by
    have hx' := p.mem_iff.mp hx
    have r := h.rows
    have mem : triS ns (wholeS Rw) (rowOf ns Rw x) ∈ rowsR ns Rw := List.mem_map.mpr ⟨_, rowOf_mem h hx', rfl⟩
    have := row_sum_le (g := fun e => e.1) (c := 9) (r.nn _ mem) fun e he => by have := h.dig mem he; omega
    rw [r.tot _ mem] at this
    unfold lS1 meanS
    refine Nat.le_trans this ?_
    omega
  refine ⟨le, fun x => ?_, md_pow (fun i j _ => le i j) n6⟩
  by_cases hx : x ∈ ns
  · exact .inl (mS_pow (fun i j _ => le i j) (fun i => le i _) (Nat.le_refl _) n6 (idx_lt (p.mem_iff.mpr hx)))
  · exact .inr hx
theorem law_b2 (h : BkOk b ns Rw B) (p : nsS.Perm ns) : (∀ i j, (lA2 b ns nsS Rw i j).natAbs ≤ 2 ^ 293) ∧ (lB b ns nsS Rw * (b * b * (wholeS Rw : Nat))).natAbs ≤ 2 ^ 293 := by
  obtain ⟨_, lt, lb⟩ := law_b1 h p
  have w := whole_le h.ent
  have B36 := h.B36
  have b2 := h.b2
  have b10 := h.b10
  have L := h.law p
  have bb : b * b ≤ 10 * 10 := Int.mul_le_mul b10 b10 (by omega) (by omega)
  have bb0 : 0 ≤ b * b := Int.mul_nonneg (by omega) (by omega)
  have bw : b * b * (wholeS Rw : Nat) ≤ 10 * 10 * ((wholeS Rw : Nat) : Int) := Int.mul_le_mul_of_nonneg_right bb (by omega)
  have bw0 : 0 ≤ b * b * ((wholeS Rw : Nat) : Int) := Int.mul_nonneg bb0 (by omega)
  have e293 : 2 ^ 293 = 2 ^ 250 * 2 ^ 43 := by rw [← Nat.pow_add]
  refine ⟨lawA_le L (lB_pos h p) bw0 (by
    rw [e293]
    exact Nat.mul_le_mul lb (by omega)) fun x hx => ?_, by
    rw [Int.natAbs_mul, e293]
    exact Nat.mul_le_mul lb (by omega)⟩
  have hx' := p.mem_iff.mp hx
  have r := h.rows
  have mem : triS ns (wholeS Rw) (rowOf ns Rw x) ∈ rowsR ns Rw := List.mem_map.mpr ⟨_, rowOf_mem h hx', rfl⟩
  have ent := (h.ent.row _ (rowOf_mem h hx')).2
  have e1 : lS2 b ns nsS Rw x = ((triS ns (wholeS Rw) (rowOf ns Rw x)).map fun e => e.2.2 * (e.1 * e.1 * lB b ns nsS Rw + 2 * e.1 * lT b ns nsS Rw (ns.getD e.2.1 ""))).sum := by
    unfold lS2 triS
    rw [List.map_map]
    congr 1
    refine List.map_congr_left fun e he => ?_
    have hn := (ent e he).2.2.1
    show _ = e.2.2.1 * (((wholeS Rw : Nat) : Int) / e.2.2.2) * (e.1 * e.1 * lB b ns nsS Rw + 2 * e.1 * lT b ns nsS Rw (ns.getD (ns.idxOf e.2.1) ""))
    rw [getD_at (idx_get hn)]
  have := row_sum_le (g := fun e => e.1 * e.1 * lB b ns nsS Rw + 2 * e.1 * lT b ns nsS Rw (ns.getD e.2.1 "")) (c := 2 ^ 257) (r.nn _ mem) fun e he => by
    obtain ⟨d1, d2⟩ := h.dig mem he
    have q1 : ((e.1 * e.1 * lB b ns nsS Rw).natAbs) ≤ 81 * 2 ^ 250 := by
      rw [Int.natAbs_mul, Int.natAbs_mul]
      exact Nat.mul_le_mul (Nat.mul_le_mul (show e.1.natAbs ≤ 9 by omega) (show e.1.natAbs ≤ 9 by omega)) lb
    have q2 : ((2 * e.1 * lT b ns nsS Rw (ns.getD e.2.1 "")).natAbs) ≤ 18 * 2 ^ 250 := by
      rw [Int.natAbs_mul, Int.natAbs_mul]
      refine Nat.mul_le_mul (Nat.mul_le_mul (Nat.le_refl 2) (show e.1.natAbs ≤ 9 by omega)) ?_
      obtain ⟨e0, he0, rfl⟩ := List.mem_map.mp he
      have hn := (ent e0 he0).2.2.1
      show (lT b ns nsS Rw (ns.getD (ns.idxOf e0.2.1) "")).natAbs ≤ 2 ^ 250
      rw [getD_at (idx_get hn)]
      exact (lt _).resolve_right (fun z => z hn)
    have q3 := Int.natAbs_add_le (e.1 * e.1 * lB b ns nsS Rw) (2 * e.1 * lT b ns nsS Rw (ns.getD e.2.1 ""))
    have q4 : 81 * 2 ^ 250 + 18 * 2 ^ 250 ≤ 2 ^ 257 := by decide
    omega
  rw [r.tot _ mem, ← e1] at this
  refine Nat.le_trans this ?_
  rw [show (293 : Nat) = 36 + 257 by decide, Nat.pow_add]
  exact Nat.mul_le_mul (by omega) (Nat.le_refl _)
end
section
variable {P : Program} {w : World} {K : PySem.W.Frag} {mg : Str → Option Value} {base : Heap}
set_option maxHeartbeats 2000000 in
end
end My

set_option linter.all false
namespace My
open PySem PySem.Spec PyProof.Rows L2
/-! ### a drawn shared book, by its entries -/
def entOf (W : Int) (e : Spot × Int) : Ent := (e.1.1, e.1.2, (lowP e.2 W).1, (lowP e.2 W).2)
def entD (e : Ent) : PyData := .tuple [.int e.1, .str e.2.1, .tuple [.int e.2.2.1, .int e.2.2.2]]
structure EW (b : Int) (ns : List Str) (es : List Ent) (W : Nat) : Prop where
  pos : 0 < W
  le : W ≤ 60
  len : es.length ≤ 12
  ex : ∃ S : List (Spot × Int), es = S.map (entOf (W : Nat)) ∧ (S.map (·.2)).sum = (W : Nat) ∧ ∀ e ∈ S, (0 ≤ e.1.1 ∧ e.1.1 < b ∧ e.1.2 ∈ ns) ∧ 0 < e.2 ∧ e.2 ≤ (W : Nat)
theorem srow_ent {b : Int} {ns : List Str} {row : List PyData} (h : SRow b ns row) : ∃ (es : List Ent) (W : Nat), row = es.map entD ∧ EW b ns es W := by
  obtain ⟨S, W, rfl, nd, ok, sm, W0, W60, l, ne, _⟩ := h.ex
  obtain ⟨w, rfl⟩ : ∃ w : Nat, W = (w : Int) := ⟨W.toNat, by omega⟩
  refine ⟨S.map (entOf w), w, ?_, by omega, by omega, by rw [List.length_map]; exact l, S, rfl, sm, ok⟩
  rw [List.map_map]; rfl
theorem rows_ent {b : Int} {ns : List Str} : ∀ {rows : List (List PyData)}, (∀ row ∈ rows, SRow b ns row) → ∃ (Rw : List (List Ent)) (B : Nat), rows = Rw.map (fun es => es.map entD) ∧ 0 < B ∧ B ≤ 60 ^ rows.length ∧ ∀ es ∈ Rw, ∃ W : Nat, W ∣ B ∧ EW b ns es W
  | [], _ => ⟨[], 1, rfl, by decide, by simp, fun _ h => nomatch h⟩
  | row :: rows, h => by
    obtain ⟨es, W, e1, ew⟩ := srow_ent (h row List.mem_cons_self)
    obtain ⟨Rw, B, e2, B0, Bl, hB⟩ := rows_ent (rows := rows) fun r hr => h r (List.mem_cons_of_mem _ hr)
    refine ⟨es :: Rw, W * B, by rw [List.map_cons, ← e1, ← e2], Nat.mul_pos ew.pos B0, ?_, fun x hx => ?_⟩
    · rw [List.length_cons, Nat.pow_succ, Nat.mul_comm]
      exact Nat.mul_le_mul Bl ew.le
    · rcases List.mem_cons.mp hx with rfl | hx
      · exact ⟨W, Nat.dvd_mul_right _ _, ew⟩
      · obtain ⟨W', d, q⟩ := hB x hx
        exact ⟨W', Nat.dvd_trans d (Nat.dvd_mul_left _ _), q⟩
theorem EW.ent {b : Int} {ns : List Str} {es : List Ent} {W : Nat} (h : EW b ns es W) {e : Ent} (he : e ∈ es) : 0 ≤ e.1 ∧ e.1 < b ∧ e.2.1 ∈ ns ∧ 0 < e.2.2.1 ∧ e.2.2.1 ≤ 100 ∧ 0 < e.2.2.2 ∧ e.2.2.2 ≤ 100 ∧ e.2.2.2.natAbs ∣ W := by
  obtain ⟨S, rfl, sm, ok⟩ := h.ex
  obtain ⟨s, hs, rfl⟩ := List.mem_map.mp he
  obtain ⟨⟨k1, k2, k3⟩, k4, k5⟩ := ok s hs
  have W0 : (0 : Int) < (W : Nat) := by have := h.pos; omega
  have Wl := h.le
  have p2 := low_pos (a := s.2) W0
  have c := low_cross (a := s.2) W0
  obtain ⟨l1, l2⟩ := low_le (a := s.2) W0
  have p1 : 0 < (lowP s.2 (W : Nat)).1 := by
    have r := Int.mul_pos k4 p2
    rw [← c] at r
    rcases Int.lt_trichotomy (lowP s.2 (W : Nat)).1 0 with g | g | g
    · have := Int.mul_neg_of_neg_of_pos g W0; omega
    · rw [g] at r; omega
    · exact g
  refine ⟨k1, k2, k3, p1, by show (lowP s.2 (W : Nat)).1 ≤ 100; omega, p2, by show (lowP s.2 (W : Nat)).2 ≤ 100; omega, ?_⟩
  have d := (low_mul (a := s.2) (d := (W : Nat))).2
  show (lowP s.2 (W : Nat)).2.natAbs ∣ W
  refine Int.ofNat_dvd.mp (Int.natAbs_dvd.mpr ⟨gL s.2 (W : Nat), d.symm⟩)
theorem EW.one {b : Int} {ns : List Str} {es : List Ent} {W Wh : Nat} (h : EW b ns es W) (dv : ∀ e ∈ es, e.2.2.2.natAbs ∣ Wh) : totS (triS ns Wh es) = (Wh : Nat) := by
  have ent := fun e (he : e ∈ es) => h.ent he
  obtain ⟨S, rfl, sm, ok⟩ := h.ex
  have W0 : (0 : Int) < (W : Nat) := by have := h.pos; omega
  have e1 : totS (triS ns Wh (S.map (entOf (W : Nat)))) = (S.map fun s => (lowP s.2 (W : Nat)).1 * ((Wh : Int) / (lowP s.2 (W : Nat)).2)).sum := by
    unfold totS triS
    rw [List.map_map, List.map_map]; rfl
  rw [e1]
  refine Int.eq_of_mul_eq_mul_right (Int.ne_of_gt W0) ?_
  rw [sum_pair (k := (Wh : Int)) (g := fun s => s.2) fun s hs => ?_]
  · rw [show (S.map fun s => s.2).sum = (W : Nat) from sm]
  · have hm : entOf (W : Nat) s ∈ S.map (entOf (W : Nat)) := List.mem_map.mpr ⟨s, hs, rfl⟩
    have pm := part_mul (dv _ hm) (ent _ hm).2.2.2.2.2.1
    have c := low_cross (a := s.2) W0
    have pm : (lowP s.2 (W : Nat)).2 * ((Wh : Int) / (lowP s.2 (W : Nat)).2) = Wh := pm
    generalize (Wh : Int) / (lowP s.2 (W : Nat)).2 = g at pm ⊢
    have l : (lowP s.2 (W : Nat)).1 * g * (W : Nat) = (lowP s.2 (W : Nat)).1 * (W : Nat) * g := by ac_rfl
    rw [l, c, ← pm]
    ac_rfl
theorem book_ok {b : Int} {ns : List Str} {rows : List (List PyData)} (b2 : 2 ≤ b) (b10 : b ≤ 10) (hr : ∀ row ∈ rows, SRow b ns row) (hl : rows.length = ns.length) (h6 : ns.length ≤ 6) : ∃ (Rw : List (List Ent)) (B : Nat), rows = Rw.map (fun es => es.map entD) ∧ BkOk b ns Rw B := by
  obtain ⟨Rw, B, e1, B0, Bl, hB⟩ := rows_ent hr
  have ln : Rw.length = ns.length := by rw [← hl, e1, List.length_map]
  have B36 : B < 2 ^ 36 := Nat.lt_of_le_of_lt Bl (Nat.lt_of_le_of_lt (Nat.pow_le_pow_right (by decide) (show rows.length ≤ 6 by omega)) (by decide))
  have eo : EntOk b ns Rw B := ⟨by omega, fun es hes => by
    obtain ⟨W, dW, ew⟩ := hB es hes
    refine ⟨ew.len, fun e he => ?_⟩
    obtain ⟨k1, k2, k3, k4, k5, k6, k7, k8⟩ := ew.ent he
    exact ⟨k1, k2, k3, k4, k5, k6, k7, Nat.dvd_trans k8 dW⟩, B0, Nat.lt_of_lt_of_le B36 (Nat.pow_le_pow_right (by decide) (by decide))⟩
  refine ⟨Rw, B, e1, eo, b2, b10, by omega, ln.symm, B36, fun es hes => ?_⟩
  obtain ⟨W, dW, ew⟩ := hB es hes
  exact ew.one fun e he => whole_dvd hes he
/-- a row that stands, by its data -/
theorem rowT_dx {w : World} {H : Hp} {q : Addr} {es : List Ent} (h : Dx w (TupG H) (.ref q) (.tuple (es.map entD))) : RowT H q es := by
  cases h with
  | tup g ds =>
    obtain ⟨xs, e, g⟩ := tupG_of g
    cases e
    have lx := ds.len
    rw [List.length_map] at lx
    have one : ∀ v e, Dx w (TupG H) v (entD e) → ∃ t s : Addr, v = .ref t ∧ H t = some (.tup [.int e.1, .str e.2.1, .ref s]) ∧ H s = some (.tup [.int e.2.2.1, .int e.2.2.2]) := fun v e d => by
      cases d with
      | tup g1 d1 =>
        obtain ⟨ys, e2, g1⟩ := tupG_of g1
        cases e2
        cases d1 with
        | cons a r =>
          cases a
          cases r with
          | cons a r =>
            cases a
            cases r with
            | cons a r =>
              cases r
              cases a with
              | tup g2 d2 =>
                obtain ⟨zs, e3, g2⟩ := tupG_of g2
                cases e3
                cases d2 with
                | cons a r =>
                  cases a
                  cases r with
                  | cons a r =>
                    cases a
                    cases r
                    exact ⟨_, _, rfl, g1, g2⟩
    have ch : ∀ (xs : List V) (es : List Ent), DxAll w (TupG H) xs (es.map entD) → ∃ ts ss : List Addr, xs = ts.map V.ref ∧ ts.length = es.length ∧ ss.length = es.length ∧ ∀ (j : Nat) (t s : Addr) (e : Ent), ts[j]? = some t → ss[j]? = some s → es[j]? = some e → H t = some (.tup [.int e.1, .str e.2.1, .ref s]) ∧ H s = some (.tup [.int e.2.2.1, .int e.2.2.2]) := by
      intro xs es
      induction es generalizing xs with
      | nil => intro d; cases d; exact ⟨[], [], rfl, rfl, rfl, fun j t s e h => by simp at h⟩
      | cons e es ih =>
        intro d
        cases d with
        | cons a r =>
          obtain ⟨t, s, rfl, h1, h2⟩ := one _ e a
          obtain ⟨ts, ss, rfl, l1, l2, hh⟩ := ih _ r
          refine ⟨t :: ts, s :: ss, rfl, by rw [List.length_cons, List.length_cons, l1], by rw [List.length_cons, List.length_cons, l2], fun j t' s' e' g1 g2 g3 => ?_⟩
          cases j with
          | zero => cases g1; cases g2; cases g3; exact ⟨h1, h2⟩
          | succ j => exact hh j t' s' e' (by simpa using g1) (by simpa using g2) (by simpa using g3)
    obtain ⟨ts, ss, rfl, l1, l2, hh⟩ := ch _ _ ds
    exact ⟨ts, ss, g, l1, l2, hh⟩
end My

set_option linter.all false
namespace My.Rg
/-! ### sums over lists -/
theorem s_zero {α : Type} {g : α → Int} : ∀ {l : List α}, (∀ t ∈ l, g t = 0) → (l.map g).sum = 0
  | [], _ => rfl
  | t :: l, h => by rw [List.map_cons, List.sum_cons, h t List.mem_cons_self, s_zero fun u m => h u (List.mem_cons_of_mem _ m)]; rfl
theorem s_ext {α : Type} {g g' : α → Int} {l : List α} (h : ∀ t ∈ l, g t = g' t) : (l.map g).sum = (l.map g').sum := by rw [List.map_congr_left h]
theorem s_mul {α : Type} {g : α → Int} (c : Int) : ∀ l : List α, (l.map fun t => c * g t).sum = c * (l.map g).sum
  | [] => by simp
  | t :: l => by rw [List.map_cons, List.sum_cons, List.map_cons, List.sum_cons, s_mul c l, Int.mul_add]
theorem s_mulr {α : Type} {g : α → Int} (c : Int) (l : List α) : (l.map fun t => g t * c).sum = (l.map g).sum * c := by
  rw [Int.mul_comm, ← s_mul]; exact s_ext fun t _ => Int.mul_comm _ _
theorem s_add {α : Type} {g h : α → Int} : ∀ l : List α, (l.map fun t => g t + h t).sum = (l.map g).sum + (l.map h).sum
  | [] => rfl
  | t :: l => by rw [List.map_cons, List.sum_cons, List.map_cons, List.sum_cons, List.map_cons, List.sum_cons, s_add l]; omega
theorem s_sub {α : Type} {g h : α → Int} : ∀ l : List α, (l.map fun t => g t - h t).sum = (l.map g).sum - (l.map h).sum
  | [] => rfl
  | t :: l => by rw [List.map_cons, List.sum_cons, List.map_cons, List.sum_cons, List.map_cons, List.sum_cons, s_sub l]; omega
theorem s_swap {α β : Type} (f : α → β → Int) : ∀ (l : List α) (m : List β), (l.map fun a => (m.map fun b => f a b).sum).sum = (m.map fun b => (l.map fun a => f a b).sum).sum
  | [], m => (s_zero fun b _ => rfl).symm
  | a :: l, m => by
    rw [List.map_cons, List.sum_cons, s_swap f l m, ← s_add]
    exact s_ext fun b _ => by rw [List.map_cons, List.sum_cons]
theorem s_le {α : Type} {g h : α → Int} : ∀ {l : List α}, (∀ t ∈ l, g t ≤ h t) → (l.map g).sum ≤ (l.map h).sum
  | [], _ => Int.le_refl _
  | t :: l, p => by
    rw [List.map_cons, List.sum_cons, List.map_cons, List.sum_cons]
    have := p t List.mem_cons_self
    have := s_le (g := g) (h := h) (l := l) fun u m => p u (List.mem_cons_of_mem _ m)
    omega
theorem s_nn {α : Type} {g : α → Int} {l : List α} (h : ∀ t ∈ l, 0 ≤ g t) : 0 ≤ (l.map g).sum := by
  have := s_le (g := fun _ => 0) (h := g) h
  rw [s_zero fun _ _ => rfl] at this; exact this
theorem s_mem {α : Type} {g : α → Int} : ∀ {l : List α}, (∀ t ∈ l, 0 ≤ g t) → ∀ t ∈ l, g t ≤ (l.map g).sum
  | x :: l, h, t, ht => by
    rw [List.map_cons, List.sum_cons]
    have h0 := h x List.mem_cons_self
    have h1 := s_nn (g := g) (l := l) fun u m => h u (List.mem_cons_of_mem _ m)
    rcases List.mem_cons.mp ht with e | e
    · subst e; omega
    · have := s_mem (g := g) (l := l) (fun u m => h u (List.mem_cons_of_mem _ m)) t e; omega
theorem s_filter {α : Type} {g : α → Int} (p : α → Bool) : ∀ l : List α, (l.map g).sum = ((l.filter p).map g).sum + ((l.filter fun x => !p x).map g).sum
  | [] => rfl
  | x :: l => by
    have ih := s_filter (g := g) p l
    rw [List.filter_cons, List.filter_cons, List.map_cons, List.sum_cons, ih]
    cases h : p x
    · simp only [Bool.false_eq_true, if_false, Bool.not_false, if_true, List.map_cons, List.sum_cons]; omega
    · simp only [Bool.not_true, Bool.false_eq_true, if_false, if_true, List.map_cons, List.sum_cons]; omega
theorem s_ite {α : Type} {g : α → Int} (p : α → Bool) : ∀ l : List α, (l.map fun t => if p t = true then g t else 0).sum = ((l.filter p).map g).sum
  | [] => rfl
  | x :: l => by
    have ih := s_ite (g := g) p l
    rw [List.filter_cons, List.map_cons, List.sum_cons, ih]
    cases h : p x
    · simp
    · simp
theorem s_abs {α : Type} {g h : α → Int} : ∀ {l : List α}, (∀ t ∈ l, ((g t).natAbs : Int) ≤ h t) → (((l.map g).sum).natAbs : Int) ≤ (l.map h).sum
  | [], _ => Int.le_refl _
  | t :: l, p => by
    rw [List.map_cons, List.sum_cons, List.map_cons, List.sum_cons]
    have := p t List.mem_cons_self
    have := s_abs (g := g) (h := h) (l := l) fun u m => p u (List.mem_cons_of_mem _ m)
    have := Int.natAbs_add_le (g t) (l.map g).sum
    omega
/-! ### lines gone back -/
def gE (wl : Bool) (d s : Int) (F : Nat → Nat → Int) (z : Nat) (es : List Tri) (j : Nat) : Int := (es.map fun e => if e.1 = d then e.2.2 * F e.2.1 j else if e.1 < d ∧ wl = true ∧ j = z then e.2.2 * s else 0).sum
def gB (wl : Bool) (R : Nat → List Tri) (W : Int) (z : Nat) (s : Int) (F : Nat → Nat → Int) : List Int → Nat → Nat → Int
  | [] => F
  | d :: ds => fun i j => gE wl d (s * W ^ ds.length) (gB wl R W z s F ds) z (R i) j
def tot (es : List Tri) : Int := (es.map fun e => e.2.2).sum
structure Rk (n : Nat) (R : Nat → List Tri) (W : Int) : Prop where
  pp : ∀ i, i < n → ∀ e ∈ R i, 0 < e.2.2
  num : ∀ i, i < n → ∀ e ∈ R i, e.2.1 < n
  tot : ∀ i, i < n → tot (R i) = W
  pos : 0 < W
theorem Rk.wp {n : Nat} {R : Nat → List Tri} {W : Int} (K : Rk n R W) (k : Nat) : 0 < W ^ k := Int.pow_pos K.pos
def dl (i j : Nat) : Int := if i = j then 1 else 0
section
variable {wl : Bool} {R : Nat → List Tri} {W : Int} {n z : Nat} {s : Int} {F : Nat → Nat → Int}
theorem gB_app (ys : List Int) : ∀ xs : List Int, gB wl R W z s F (xs ++ ys) = gB wl R W z (s * W ^ ys.length) (gB wl R W z s F ys) xs
  | [] => rfl
  | d :: xs => by
    funext i j
    show gE wl d (s * W ^ (xs ++ ys).length) (gB wl R W z s F (xs ++ ys)) z (R i) j = gE wl d (s * W ^ ys.length * W ^ xs.length) (gB wl R W z (s * W ^ ys.length) (gB wl R W z s F ys) xs) z (R i) j
    rw [gB_app ys xs, List.length_append, Int.mul_assoc, ← Int.pow_add, Nat.add_comm]
theorem gB_mul (c : Int) : ∀ ds : List Int, gB wl R W z (c * s) (fun i j => c * F i j) ds = fun i j => c * gB wl R W z s F ds i j
  | [] => rfl
  | d :: ds => by
    funext i j
    show gE wl d (c * s * W ^ ds.length) (gB wl R W z (c * s) (fun i j => c * F i j) ds) z (R i) j = c * gE wl d (s * W ^ ds.length) (gB wl R W z s F ds) z (R i) j
    rw [gB_mul c ds]
    unfold gE
    rw [← s_mul]
    refine s_ext fun e _ => ?_
    dsimp only
    split
    · ac_rfl
    · split
      · ac_rfl
      · rw [Int.mul_zero]
theorem gB_col {c : Nat → Int} {D : Int} (K : Rk n R W) : ∀ ds : List Int, ∀ i, i < n → gB wl R W 0 D (fun i _ => c i) ds i 0 = ((List.range n).map fun j => gB wl R W n 1 dl ds i j * c j).sum + gB wl R W n 1 dl ds i n * D
  | [], i, hi => by
    show c i = ((List.range n).map fun j => dl i j * c j).sum + dl i n * D
    have : dl i n = 0 := if_neg (by omega)
    rw [this, Int.zero_mul, Int.add_zero, Dt.sum_one (s := i) List.nodup_range (List.mem_range.mpr hi) fun t _ ht => by rw [show dl i t = 0 from if_neg (Ne.symm ht), Int.zero_mul], show dl i i = 1 from if_pos rfl, Int.one_mul]
  | d :: ds, i, hi => by
    have ih := gB_col (c := c) (D := D) K ds
    show gE wl d (D * W ^ ds.length) (gB wl R W 0 D (fun i _ => c i) ds) 0 (R i) 0 = ((List.range n).map fun j => gE wl d (1 * W ^ ds.length) (gB wl R W n 1 dl ds) n (R i) j * c j).sum + gE wl d (1 * W ^ ds.length) (gB wl R W n 1 dl ds) n (R i) n * D
    unfold gE
    rw [Dt.sum_ext (g' := fun j => ((R i).map fun e => (if e.1 = d then e.2.2 * gB wl R W n 1 dl ds e.2.1 j else 0) * c j).sum) fun j hj => by
      have hj := List.mem_range.mp hj
      rw [← s_mulr]
      refine s_ext fun e _ => ?_
      split
      · rfl
      · rw [if_neg (by omega)]]
    rw [s_swap, ← s_mulr, ← s_add]
    refine s_ext fun e he => ?_
    by_cases h : e.1 = d
    · rw [if_pos h, if_pos h, ih _ (K.num i hi e he), Int.mul_add, ← s_mul]
      congr 1
      · refine Dt.sum_ext fun j _ => ?_
        rw [if_pos h]; ac_rfl
      · ac_rfl
    · rw [if_neg h, if_neg h]
      rw [s_zero fun j _ => by rw [if_neg h, Int.zero_mul], Int.zero_add]
      by_cases h2 : e.1 < d ∧ wl = true
      · rw [if_pos ⟨h2.1, h2.2, rfl⟩, if_pos ⟨h2.1, h2.2, rfl⟩]; ac_rfl
      · rw [if_neg fun q => h2 ⟨q.1, q.2.1⟩, if_neg fun q => h2 ⟨q.1, q.2.1⟩, Int.zero_mul]
theorem gB_nn (K : Rk n R W) (s0 : 0 ≤ s) (h : ∀ i, i < n → ∀ j, 0 ≤ F i j) : ∀ ds : List Int, ∀ i, i < n → ∀ j, 0 ≤ gB wl R W z s F ds i j
  | [], i, hi, j => h i hi j
  | d :: ds, i, hi, j => by
    have ih := gB_nn K s0 h ds
    refine s_nn fun e he => ?_
    have p := Int.le_of_lt (K.pp i hi e he)
    split
    · exact Int.mul_nonneg p (ih _ (K.num i hi e he) j)
    · split
      · exact Int.mul_nonneg p (Int.mul_nonneg s0 (Int.le_of_lt (K.wp _)))
      · exact Int.le_refl _
theorem gB_tot (K : Rk n R W) (s0 : 0 ≤ s) (h0 : ∀ i, i < n → ∀ j, 0 ≤ F i j) (h : ∀ i, i < n → ((List.range (z + 1)).map (F i)).sum ≤ s) : ∀ ds : List Int, ∀ i, i < n → ((List.range (z + 1)).map (gB wl R W z s F ds i)).sum ≤ s * W ^ ds.length
  | [], i, hi => by rw [show s * W ^ ([] : List Int).length = s by simp]; exact h i hi
  | d :: ds, i, hi => by
    have ih := gB_tot K s0 h0 h ds
    have hw := Int.mul_nonneg s0 (Int.le_of_lt (K.wp ds.length))
    show ((List.range (z + 1)).map fun j => gE wl d (s * W ^ ds.length) (gB wl R W z s F ds) z (R i) j).sum ≤ s * W ^ (d :: ds).length
    unfold gE
    rw [s_swap]
    rw [show s * W ^ (d :: ds).length = (s * W ^ ds.length) * tot (R i) by rw [K.tot i hi, List.length_cons, Int.pow_succ]; ac_rfl]
    unfold tot
    rw [← s_mul]
    refine s_le fun e he => ?_
    have p := Int.le_of_lt (K.pp i hi e he)
    by_cases h : e.1 = d
    · rw [Dt.sum_ext (g' := fun j => e.2.2 * gB wl R W z s F ds e.2.1 j) fun j _ => by rw [if_pos h], Dt.sum_mul, Int.mul_comm]
      exact Int.mul_le_mul_of_nonneg_right (ih _ (K.num i hi e he)) p
    · by_cases h2 : e.1 < d ∧ wl = true
      · rw [Dt.sum_one (s := z) List.nodup_range (List.mem_range.mpr (by omega)) fun t _ ht => by rw [if_neg h, if_neg fun q => ht q.2.2], if_neg h, if_pos ⟨h2.1, h2.2, rfl⟩, Int.mul_comm]
        exact Int.le_refl _
      · rw [s_zero fun j _ => by rw [if_neg h, if_neg fun q => h2 ⟨q.1, q.2.1⟩]]
        exact Int.mul_nonneg hw p
theorem gB_abs {M : Int} (K : Rk n R W) (hs : (s.natAbs : Int) ≤ M) (h : ∀ i, i < n → ∀ j, ((F i j).natAbs : Int) ≤ M) : ∀ ds : List Int, ∀ i, i < n → ∀ j, ((gB wl R W z s F ds i j).natAbs : Int) ≤ M * W ^ ds.length
  | [], i, hi, j => by rw [show M * W ^ ([] : List Int).length = M by simp]; exact h i hi j
  | d :: ds, i, hi, j => by
    have ih := gB_abs (M := M) K hs h ds
    have M0 : 0 ≤ M := by omega
    have w0 := Int.le_of_lt (K.wp ds.length)
    have hw := Int.mul_nonneg M0 w0
    show ((gE wl d (s * W ^ ds.length) (gB wl R W z s F ds) z (R i) j).natAbs : Int) ≤ M * W ^ (d :: ds).length
    rw [show M * W ^ (d :: ds).length = (M * W ^ ds.length) * tot (R i) by rw [K.tot i hi, List.length_cons, Int.pow_succ]; ac_rfl]
    unfold gE tot
    rw [← s_mul]
    refine s_abs fun e he => ?_
    have p := Int.le_of_lt (K.pp i hi e he)
    have pe : ((e.2.2.natAbs : Nat) : Int) = e.2.2 := Int.natAbs_of_nonneg p
    by_cases h : e.1 = d
    · rw [if_pos h, Int.natAbs_mul, Int.natCast_mul, pe, Int.mul_comm]
      exact Int.mul_le_mul_of_nonneg_right (ih _ (K.num i hi e he) j) p
    · rw [if_neg h]
      by_cases h2 : e.1 < d ∧ wl = true ∧ j = z
      · rw [if_pos h2, Int.natAbs_mul, Int.natCast_mul, pe, Int.mul_comm]
        refine Int.mul_le_mul_of_nonneg_right ?_ p
        rw [Int.natAbs_mul, Int.natCast_mul, Int.natAbs_of_nonneg w0]
        exact Int.mul_le_mul_of_nonneg_right hs w0
      · rw [if_neg h2]
        exact Int.mul_nonneg hw p
end
end My.Rg

set_option linter.all false
namespace My.Rg
open Classical
/-! ### where digits can go away, and where they surely stay -/
def pl (m r0 at' : Nat) : Nat := if at' < m then at' else r0
/-- from a pair of name and place the digits may go away from those written -/
inductive Aw (R : Nat → List Tri) (digs : List Int) (r0 : Nat) : Nat → Nat → Prop
  | off {i k : Nat} {e : Tri} : e ∈ R i → e.1 ≠ digs.getD k 0 → Aw R digs r0 i k
  | on {i k : Nat} {e : Tri} : e ∈ R i → Aw R digs r0 e.2.1 (pl digs.length r0 (k + 1)) → Aw R digs r0 i k
theorem naw {R : Nat → List Tri} {digs : List Int} {r0 i k : Nat} (h : ¬ Aw R digs r0 i k) {e : Tri} (he : e ∈ R i) : e.1 = digs.getD k 0 ∧ ¬ Aw R digs r0 e.2.1 (pl digs.length r0 (k + 1)) :=
  ⟨Decidable.byContradiction fun q => h (.off he q), fun q => h (.on he q)⟩
/-- a name leaves those that keep all they have -/
inductive Pw (n : Nat) (P : Nat → Nat → Int) (s : Int) : Nat → Prop
  | leak {i : Nat} : i < n → ((List.range n).map (P i)).sum < s → Pw n P s i
  | step {i j : Nat} : i < n → j < n → 0 < P i j → Pw n P s j → Pw n P s i
section
variable {n : Nat} {P : Nat → Nat → Int} {s : Int}
structure Pk (n : Nat) (P : Nat → Nat → Int) (s : Int) : Prop where
  nn : ∀ i, i < n → ∀ j, 0 ≤ P i j
  tot : ∀ i, i < n → ((List.range (n + 1)).map (P i)).sum ≤ s
theorem Pk.row (h : Pk n P s) {i : Nat} (hi : i < n) : ((List.range n).map (P i)).sum + P i n ≤ s := by
  have := h.tot i hi
  rw [Dt.sum_snoc] at this; exact this
theorem sub_le {g : Nat → Int} (p : Nat → Bool) (l : List Nat) (h : ∀ t ∈ l, 0 ≤ g t) : ((l.filter p).map g).sum ≤ (l.map g).sum := by
  rw [s_filter (g := g) p l]
  have := s_nn (g := g) (l := l.filter fun x => !p x) fun t ht => h t (List.mem_filter.mp ht).1
  omega
/-- names that send all they have to themselves stay -/
theorem closed_stay (h : Pk n P s) (q : Nat → Bool) (hq : ∀ i, i < n → q i = true → (((List.range n).filter q).map (P i)).sum = s) : ∀ i, Pw n P s i → i < n → q i = true → False := by
  intro i a
  induction a with
  | leak hi hl =>
    intro _ qi
    have h1 := hq _ hi qi
    have h2 := sub_le (g := P _) q (List.range n) fun t _ => h.nn _ hi t
    omega
  | @step i j hi hj hp _ ih =>
    intro _ qi
    by_cases c : q j = true
    · exact ih hj c
    · have h1 := hq _ hi qi
      have h2 := h.row hi
      have h3 := h.nn i hi n
      rw [s_filter (g := P i) q, h1] at h2
      have h4 := s_mem (g := P i) (l := (List.range n).filter fun x => !q x) (fun t _ => h.nn _ hi t) j (List.mem_filter.mpr ⟨List.mem_range.mpr hj, by simp [c]⟩)
      omega
theorem npw (h : Pk n P s) {i : Nat} (hi : i < n) (a : ¬ Pw n P s i) : ((List.range n).map (P i)).sum = s ∧ P i n = 0 ∧ ∀ j, j < n → Pw n P s j → P i j = 0 := by
  have h1 : ¬ ((List.range n).map (P i)).sum < s := fun q => a (.leak hi q)
  have h2 := h.row hi
  have h3 := h.nn i hi n
  refine ⟨by omega, by omega, fun j hj q => ?_⟩
  have h4 : ¬ 0 < P i j := fun z => a (.step hi hj z q)
  have := h.nn i hi j
  omega
/-! ### the program's solution around a ring -/
noncomputable def pwb (n : Nat) (P : Nat → Nat → Int) (s : Int) (i : Nat) : Bool := decide (Pw n P s i)
noncomputable def os (n : Nat) (P : Nat → Nat → Int) (s : Int) : List Nat := (List.range n).filter (pwb n P s)
noncomputable def sr (n : Nat) (P : Nat → Nat → Int) (s : Int) : List Nat := (List.range n).filter fun i => !pwb n P s i
theorem mem_os {i : Nat} : i ∈ os n P s ↔ i < n ∧ Pw n P s i := by
  unfold os pwb; rw [List.mem_filter, List.mem_range]; simp
theorem mem_sr {i : Nat} : i ∈ sr n P s ↔ i < n ∧ ¬ Pw n P s i := by
  unfold sr pwb; rw [List.mem_filter, List.mem_range]; simp
theorem os_nod : (os n P s).Nodup := List.nodup_range.filter _
theorem os_split (g : Nat → Int) : ((List.range n).map g).sum = ((os n P s).map g).sum + ((sr n P s).map g).sum := s_filter (pwb n P s) _
noncomputable def mP (n : Nat) (P : Nat → Nat → Int) (s : Int) (a b : Nat) : Int :=
  if b < (os n P s).length then (if (os n P s).getD a 0 = (os n P s).getD b 0 then s else 0) - P ((os n P s).getD a 0) ((os n P s).getD b 0)
  else if b = (os n P s).length then P ((os n P s).getD a 0) n + ((sr n P s).map (P ((os n P s).getD a 0))).sum else 0
theorem getD_get {l : List Nat} {a : Nat} (h : a < l.length) : l.getD a 0 = l[a] := by rw [List.getD_eq_getElem?_getD, List.getElem?_eq_getElem h]; rfl
theorem map_idx (g : Nat → Int) (l : List Nat) : ((List.range l.length).map fun b => g (l.getD b 0)) = l.map g := by
  apply List.ext_getElem
  · simp
  · intro i h1 h2
    have hi : i < l.length := by simpa using h2
    simp [getD_get hi, hi]
theorem os_lt {a : Nat} (h : a < (os n P s).length) : (os n P s).getD a 0 < n ∧ Pw n P s ((os n P s).getD a 0) := by
  rw [getD_get h]; exact mem_os.mp (List.getElem_mem h)
theorem os_inj {a b : Nat} (ha : a < (os n P s).length) (hb : b < (os n P s).length) : (os n P s).getD a 0 = (os n P s).getD b 0 ↔ a = b := by
  rw [getD_get ha, getD_get hb]
  exact ⟨fun h => (List.getElem_inj (os_nod (n := n) (P := P) (s := s))).mp h, fun h => by subst h; rfl⟩
theorem mP_at {a b : Nat} (hb : b < (os n P s).length) : mP n P s a b = (if (os n P s).getD a 0 = (os n P s).getD b 0 then s else 0) - P ((os n P s).getD a 0) ((os n P s).getD b 0) := if_pos hb
theorem mP_zw (h : Pk n P s) : Dt.Zw (os n P s).length 0 (mP n P s) := by
  have row : ∀ a, a < (os n P s).length → Dt.rsum (mP n P s a) 0 ((os n P s).length - 0) = s - ((os n P s).map (P ((os n P s).getD a 0))).sum := fun a ha => by
    rw [Nat.sub_zero, Dt.rsum_zero, Dt.sum_ext (g' := fun b => (if a = b then s else 0) - P ((os n P s).getD a 0) ((os n P s).getD b 0)) fun b hb => by
      have hb := List.mem_range.mp hb
      unfold mP
      rw [if_pos hb]
      by_cases c : a = b
      · rw [if_pos c, if_pos ((os_inj ha hb).mpr c)]
      · rw [if_neg c, if_neg fun z => c ((os_inj ha hb).mp z)], Dt.sum_sub, map_idx (P ((os n P s).getD a 0)), Dt.sum_one (s := a) List.nodup_range (List.mem_range.mpr ha) fun t _ ht => if_neg (Ne.symm ht), if_pos rfl]
  have sub : ∀ a, a < (os n P s).length → ((os n P s).map (P ((os n P s).getD a 0))).sum ≤ ((List.range n).map (P ((os n P s).getD a 0))).sum := fun a ha => sub_le _ _ fun t _ => h.nn _ (os_lt ha).1 t
  refine ⟨fun a b _ ha _ hb ne => ?_, fun a _ ha => ?_, fun a _ ha => ?_⟩
  · unfold mP
    rw [if_pos hb, if_neg fun z => ne ((os_inj ha hb).mp z)]
    have := h.nn _ (os_lt ha).1 ((os n P s).getD b 0)
    omega
  · rw [row a ha]
    have h1 := h.row (os_lt ha).1
    have h2 := h.nn _ (os_lt ha).1 n
    have h3 := sub a ha
    omega
  · have key : ∀ i, Pw n P s i → ∀ a, a < (os n P s).length → (os n P s).getD a 0 = i → Dt.Esc (os n P s).length 0 (mP n P s) a := by
      intro i q
      induction q with
      | leak hi hl =>
        intro a ha e
        refine .leaf (Nat.zero_le _) ha ?_
        rw [row a ha]
        have h3 := sub a ha
        rw [e] at h3 ⊢
        omega
      | @step i j hi hj hp q ih =>
        intro a ha e
        obtain ⟨b, hb, eb⟩ := List.mem_iff_getElem.mp (mem_os.mpr ⟨hj, q⟩)
        have eb' : (os n P s).getD b 0 = j := by rw [getD_get hb]; exact eb
        have E := ih b hb eb'
        by_cases c : a = b
        · subst c; exact E
        · refine .step (Nat.zero_le _) ha (Nat.zero_le _) hb c ?_ E
          unfold mP
          rw [if_pos hb, if_neg fun z => c ((os_inj ha hb).mp z), e, eb']
          omega
    exact key _ (os_lt ha).2 a ha rfl
noncomputable abbrev mPd (n : Nat) (P : Nat → Nat → Int) (s : Int) : Int := Dt.md (mP n P s) (os n P s).length
noncomputable def chP (n : Nat) (P : Nat → Nat → Int) (s : Int) (i : Nat) : Int := if pwb n P s i = true then Dt.mS (mP n P s) (os n P s).length ((os n P s).idxOf i) (os n P s).length else mPd n P s
theorem mPd_pos (h : Pk n P s) : 0 < mPd n P s := ((mP_zw h).all _ (Nat.le_refl _)).2.1
theorem ch_os {a : Nat} (ha : a < (os n P s).length) : chP n P s ((os n P s).getD a 0) = Dt.mS (mP n P s) (os n P s).length a (os n P s).length := by
  have h := os_lt ha
  unfold chP
  rw [if_pos (by unfold pwb; simpa using h.2), getD_get ha, (os_nod (n := n) (P := P) (s := s)).idxOf_getElem a ha]
theorem ch_sr {i : Nat} (h : ¬ Pw n P s i) : chP n P s i = mPd n P s := by
  unfold chP; rw [if_neg (by unfold pwb; simpa using h)]
/-- what was solved stays as it is by one more round -/
theorem ch_fix (h : Pk n P s) {i : Nat} (hi : i < n) : ((List.range n).map fun j => P i j * chP n P s j).sum + P i n * mPd n P s = s * chP n P s i := by
  by_cases c : Pw n P s i
  · obtain ⟨a, ha, ea⟩ := List.mem_iff_getElem.mp (mem_os.mpr ⟨hi, c⟩)
    have ea' : (os n P s).getD a 0 = i := by rw [getD_get ha]; exact ea
    have z := (mP_zw h).sol ha (os n P s).length
    have l : mP n P s a (os n P s).length = P i n + ((sr n P s).map (P i)).sum := by
      unfold mP; rw [if_neg (Nat.lt_irrefl _), if_pos rfl, ea']
    rw [l] at z
    rw [Dt.sum_ext (g' := fun t => (if a = t then s * chP n P s i else 0) - P i ((os n P s).getD t 0) * chP n P s ((os n P s).getD t 0)) fun t ht => by
      have ht := List.mem_range.mp ht
      rw [ch_os ht, mP_at ht, ea']
      by_cases d : a = t
      · subst d
        rw [if_pos ea'.symm, if_pos rfl, ← ea', ch_os ha, Int.sub_mul]
      · rw [if_neg fun q => d ((os_inj ha ht).mp (ea'.trans q)), if_neg d, Int.sub_mul, Int.zero_mul], Dt.sum_sub, Dt.sum_one (s := a) List.nodup_range (List.mem_range.mpr ha) fun t _ ht => if_neg (Ne.symm ht), if_pos rfl, map_idx (fun j => P i j * chP n P s j)] at z
    rw [os_split (P := P) (s := s)]
    have q : ((sr n P s).map fun j => P i j * chP n P s j).sum = ((sr n P s).map (P i)).sum * mPd n P s := by
      rw [← s_mulr]
      exact s_ext fun j hj => by rw [ch_sr (mem_sr.mp hj).2]
    rw [q]
    have e : Dt.md (mP n P s) (os n P s).length * (P i n + ((sr n P s).map (P i)).sum) = P i n * mPd n P s + ((sr n P s).map (P i)).sum * mPd n P s := by
      rw [Int.mul_add, Int.mul_comm _ (P i n), Int.mul_comm _ (((sr n P s).map (P i)).sum)]
    rw [e] at z
    omega
  · obtain ⟨h1, h2, h3⟩ := npw h hi c
    have e : s * mPd n P s = ((List.range n).map fun j => P i j * mPd n P s).sum := by rw [s_mulr]; exact congrArg (· * mPd n P s) h1.symm
    rw [h2, Int.zero_mul, Int.add_zero, ch_sr c, e]
    refine Dt.sum_ext fun j hj => ?_
    by_cases d : Pw n P s j
    · rw [h3 j (List.mem_range.mp hj) d, Int.zero_mul, Int.zero_mul]
    · rw [ch_sr d]
end
end My.Rg

set_option linter.all false
namespace My.Rg
open Classical
section
variable {wl : Bool} {R : Nat → List Tri} {W : Int} {n : Nat} {digs : List Int} {r0 : Nat}
abbrev rgP (wl : Bool) (R : Nat → List Tri) (W : Int) (n : Nat) (digs : List Int) (r0 : Nat) : Nat → Nat → Int := gB wl R W n 1 dl (digs.drop r0)
abbrev rgS (W : Int) (digs : List Int) (r0 : Nat) : Int := 1 * W ^ (digs.drop r0).length
theorem rg_pk (K : Rk n R W) : Pk n (rgP wl R W n digs r0) (rgS W digs r0) := by
  have d0 : ∀ i, i < n → ∀ j, 0 ≤ dl i j := fun i _ j => by unfold dl; split <;> omega
  refine ⟨gB_nn K (by decide) d0 _, gB_tot K (by decide) d0 (fun i hi => ?_) _⟩
  rw [Dt.sum_one (g := dl i) (s := i) List.nodup_range (List.mem_range.mpr (by omega)) fun t _ ht => if_neg (Ne.symm ht), show dl i i = 1 from if_pos rfl]
  exact Int.le_refl _
theorem drop_cons {k : Nat} (h : k < digs.length) : digs.drop k = digs.getD k 0 :: digs.drop (k + 1) := by
  rw [List.drop_eq_getElem_cons h, List.getD_eq_getElem?_getD, List.getElem?_eq_getElem h]; rfl
theorem gE_stay {d s : Int} {F : Nat → Nat → Int} {z j : Nat} {es : List Tri} (h : ∀ e ∈ es, e.1 = d) : gE wl d s F z es j = (es.map fun e => e.2.2 * F e.2.1 j).sum := s_ext fun e he => if_pos (h e he)
theorem ring_in (K : Rk n R W) (hr : r0 < digs.length) : ∀ t k, k + t = digs.length → r0 ≤ k → ∀ i, i < n → ¬ Aw R digs r0 i (pl digs.length r0 k) → (((List.range n).filter fun j => decide (¬ Aw R digs r0 j r0)).map (gB wl R W n 1 dl (digs.drop k) i)).sum = W ^ t
  | 0, k, hk, _, i, hi, a => by
    have e : pl digs.length r0 k = r0 := if_neg (by omega)
    rw [e] at a
    rw [List.drop_of_length_le (by omega)]
    show (((List.range n).filter fun j => decide (¬ Aw R digs r0 j r0)).map (dl i)).sum = _
    rw [Dt.sum_one (g := dl i) (s := i) (List.nodup_range.filter _) (List.mem_filter.mpr ⟨List.mem_range.mpr hi, by simpa using a⟩) fun t _ ht => if_neg (Ne.symm ht), show dl i i = 1 from if_pos rfl, Int.pow_zero]
  | t + 1, k, hk, hrk, i, hi, a => by
    have kl : k < digs.length := by omega
    have e : pl digs.length r0 k = k := if_pos kl
    rw [e] at a
    rw [drop_cons kl]
    show (((List.range n).filter fun j => decide (¬ Aw R digs r0 j r0)).map fun j => gE wl (digs.getD k 0) (1 * W ^ (digs.drop (k + 1)).length) (gB wl R W n 1 dl (digs.drop (k + 1))) n (R i) j).sum = _
    rw [Dt.sum_ext (g' := fun j => ((R i).map fun e => e.2.2 * gB wl R W n 1 dl (digs.drop (k + 1)) e.2.1 j).sum) fun j _ => gE_stay fun e he => (naw a he).1, s_swap]
    rw [s_ext (g' := fun e => e.2.2 * W ^ t) fun e he => by
      rw [s_mul]
      rw [ring_in K hr t (k + 1) (by omega) (by omega) e.2.1 (K.num i hi e he) (naw a he).2], s_mulr]
    show tot (R i) * W ^ t = _
    rw [K.tot i hi, Int.pow_succ, Int.mul_comm]
theorem naw_npw (K : Rk n R W) (hr : r0 < digs.length) {i : Nat} (hi : i < n) (a : ¬ Aw R digs r0 i r0) : ¬ Pw n (rgP wl R W n digs r0) (rgS W digs r0) i := fun q => by
  refine closed_stay (rg_pk K) (fun j => decide (¬ Aw R digs r0 j r0)) (fun j hj qj => ?_) i q hi (by simpa using a)
  have := ring_in (wl := wl) K hr (digs.length - r0) r0 (by omega) (Nat.le_refl _) j hj (by rw [show pl digs.length r0 r0 = r0 from if_pos hr]; simpa using qj)
  rw [this]
  unfold rgS
  rw [List.length_drop, Int.one_mul]
noncomputable abbrev rgC (wl : Bool) (R : Nat → List Tri) (W : Int) (n : Nat) (digs : List Int) (r0 : Nat) : Nat → Int := chP n (rgP wl R W n digs r0) (rgS W digs r0)
noncomputable abbrev rgD (wl : Bool) (R : Nat → List Tri) (W : Int) (n : Nat) (digs : List Int) (r0 : Nat) : Int := mPd n (rgP wl R W n digs r0) (rgS W digs r0)
noncomputable def vA (wl : Bool) (R : Nat → List Tri) (W : Int) (n : Nat) (digs : List Int) (r0 k i : Nat) : Int := gB wl R W 0 (rgD wl R W n digs r0) (fun i _ => rgC wl R W n digs r0 i) (digs.drop k) i 0
theorem vA_ring (K : Rk n R W) (hr : r0 < digs.length) {i : Nat} (hi : i < n) : vA wl R W n digs r0 r0 i = W ^ (digs.length - r0) * rgC wl R W n digs r0 i := by
  unfold vA
  rw [gB_col K _ i hi, ch_fix (rg_pk K) hi]
  show 1 * W ^ (digs.drop r0).length * _ = _
  rw [List.length_drop, Int.one_mul]
theorem vA_end (i : Nat) : vA wl R W n digs r0 digs.length i = rgC wl R W n digs r0 i := by
  unfold vA
  rw [List.drop_of_length_le (Nat.le_refl _)]; rfl
theorem vA_step {k i : Nat} (h : k < digs.length) : vA wl R W n digs r0 k i = ((R i).map fun e => if e.1 = digs.getD k 0 then e.2.2 * vA wl R W n digs r0 (k + 1) e.2.1 else if e.1 < digs.getD k 0 ∧ wl = true then e.2.2 * (rgD wl R W n digs r0 * W ^ (digs.length - (k + 1))) else 0).sum := by
  unfold vA
  rw [drop_cons h]
  refine s_ext fun e _ => ?_
  rw [List.length_drop]
  split
  · rfl
  · by_cases c : e.1 < digs.getD k 0 ∧ wl = true
    · rw [if_pos c, if_pos ⟨c.1, c.2, rfl⟩]
    · rw [if_neg c, if_neg fun q => c ⟨q.1, q.2.1⟩]
theorem vA_stay (K : Rk n R W) (hr : r0 < digs.length) : ∀ t k, k + t = digs.length → ∀ i, i < n → ¬ Aw R digs r0 i (pl digs.length r0 k) → vA wl R W n digs r0 k i = rgD wl R W n digs r0 * W ^ t
  | 0, k, hk, i, hi, a => by
    obtain rfl : k = digs.length := by omega
    rw [show pl digs.length r0 digs.length = r0 from if_neg (Nat.lt_irrefl _)] at a
    rw [vA_end, show rgD wl R W n digs r0 * W ^ 0 = rgD wl R W n digs r0 by simp]
    exact ch_sr (naw_npw K hr hi a)
  | t + 1, k, hk, i, hi, a => by
    have kl : k < digs.length := by omega
    rw [show pl digs.length r0 k = k from if_pos kl] at a
    rw [vA_step kl, s_ext (g' := fun e => e.2.2 * (rgD wl R W n digs r0 * W ^ t)) fun e he => by
      rw [if_pos (naw a he).1, vA_stay K hr t (k + 1) (by omega) _ (K.num i hi e he) (naw a he).2], s_mulr]
    show tot (R i) * _ = _
    rw [K.tot i hi, Int.pow_succ]; ac_rfl
/-- by one size for all -/
noncomputable def zA (wl : Bool) (R : Nat → List Tri) (W : Int) (n : Nat) (digs : List Int) (r0 k i : Nat) : Int := W ^ k * vA wl R W n digs r0 k i
noncomputable def qA (wl : Bool) (R : Nat → List Tri) (W : Int) (n : Nat) (digs : List Int) (r0 : Nat) : Int := rgD wl R W n digs r0 * W ^ digs.length
theorem qA_pos (K : Rk n R W) : 0 < qA wl R W n digs r0 := Int.mul_pos (mPd_pos (rg_pk K)) (K.wp _)
theorem pow_split {a b : Nat} (h : a ≤ b) : W ^ b = W ^ a * W ^ (b - a) := by rw [← Int.pow_add]; congr 1; omega
theorem zA_stay (K : Rk n R W) (hr : r0 < digs.length) {k i : Nat} (hk : k < digs.length) (hi : i < n) (a : ¬ Aw R digs r0 i k) : zA wl R W n digs r0 k i = qA wl R W n digs r0 := by
  unfold zA qA
  rw [vA_stay K hr (digs.length - k) k (by omega) i hi (by rw [show pl digs.length r0 k = k from if_pos hk]; exact a), pow_split (Nat.le_of_lt hk)]
  ac_rfl
theorem zA_next (K : Rk n R W) (hr : r0 < digs.length) {k i : Nat} (hk : k < digs.length) (hi : i < n) : W ^ (k + 1) * vA wl R W n digs r0 (k + 1) i = zA wl R W n digs r0 (pl digs.length r0 (k + 1)) i := by
  by_cases c : k + 1 < digs.length
  · rw [show pl digs.length r0 (k + 1) = k + 1 from if_pos c]; rfl
  · rw [show pl digs.length r0 (k + 1) = r0 from if_neg c]
    unfold zA
    rw [vA_ring K hr hi, show k + 1 = digs.length by omega, vA_end, pow_split (Nat.le_of_lt hr), Int.mul_assoc]
theorem zA_step (K : Rk n R W) (hr : r0 < digs.length) {k i : Nat} (hk : k < digs.length) (hi : i < n) : W * zA wl R W n digs r0 k i = ((R i).map fun e => if e.1 = digs.getD k 0 then e.2.2 * zA wl R W n digs r0 (pl digs.length r0 (k + 1)) e.2.1 else if e.1 < digs.getD k 0 ∧ wl = true then e.2.2 * qA wl R W n digs r0 else 0).sum := by
  unfold zA
  rw [vA_step hk, ← Int.mul_assoc, show W * W ^ k = W ^ (k + 1) by rw [Int.pow_succ, Int.mul_comm], ← s_mul]
  refine s_ext fun e he => ?_
  split
  · rw [← Int.mul_assoc, Int.mul_comm (W ^ (k + 1)), Int.mul_assoc, zA_next K hr hk (K.num i hi e he)]; rfl
  · split
    · unfold qA
      rw [pow_split (W := W) (show k + 1 ≤ digs.length by omega)]; ac_rfl
    · rw [Int.mul_zero]
end
/-! ### the law's system -/
section
variable {wl : Bool} {R : Nat → List Tri} {W : Int} {n : Nat} {digs : List Int} {r0 : Nat} {free : List (Nat × Nat)}
structure Fr (R : Nat → List Tri) (n : Nat) (digs : List Int) (r0 : Nat) (free : List (Nat × Nat)) : Prop where
  nod : free.Nodup
  mem : ∀ p, p ∈ free ↔ p.1 < n ∧ p.2 < digs.length ∧ Aw R digs r0 p.1 p.2
def nxt (digs : List Int) (r0 : Nat) (p : Nat × Nat) (e : Tri) : Nat × Nat := (e.2.1, pl digs.length r0 (p.2 + 1))
def lE (R : Nat → List Tri) (digs : List Int) (r0 : Nat) (p q : Nat × Nat) : Int := ((R p.1).map fun e => if e.1 = digs.getD p.2 0 ∧ nxt digs r0 p e = q then e.2.2 else 0).sum
noncomputable def lS (wl : Bool) (R : Nat → List Tri) (digs : List Int) (r0 : Nat) (p : Nat × Nat) : Int := ((R p.1).map fun e => if (wl = true ∧ digs.getD p.2 0 < e.1) ∨ (wl = false ∧ e.1 = digs.getD p.2 0 ∧ ¬ Aw R digs r0 (nxt digs r0 p e).1 (nxt digs r0 p e).2) then e.2.2 else 0).sum
def fA (free : List (Nat × Nat)) (u : Nat) : Nat × Nat := free.getD u (0, 0)
noncomputable def lM (wl : Bool) (R : Nat → List Tri) (W : Int) (digs : List Int) (r0 : Nat) (free : List (Nat × Nat)) (u v : Nat) : Int :=
  if v < free.length then (if u = v then W else 0) - lE R digs r0 (fA free u) (fA free v) else if v = free.length then lS wl R digs r0 (fA free u) else 0
theorem fA_get {u : Nat} (h : u < free.length) : fA free u = free[u] := by unfold fA; rw [List.getD_eq_getElem?_getD, List.getElem?_eq_getElem h]; rfl
theorem fA_inj (nod : free.Nodup) {u v : Nat} (hu : u < free.length) (hv : v < free.length) : fA free u = fA free v ↔ u = v := by
  rw [fA_get hu, fA_get hv]
  exact ⟨fun h => (List.getElem_inj nod).mp h, fun h => by subst h; rfl⟩
theorem lM_at {u v : Nat} (hv : v < free.length) : lM wl R W digs r0 free u v = (if u = v then W else 0) - lE R digs r0 (fA free u) (fA free v) := if_pos hv
theorem lM_last {u : Nat} : lM wl R W digs r0 free u free.length = lS wl R digs r0 (fA free u) := by
  unfold lM; rw [if_neg (Nat.lt_irrefl _), if_pos rfl]
theorem nxt_lt (K : Rk n R W) (hr : r0 < digs.length) {p : Nat × Nat} (hp : p.1 < n) {e : Tri} (he : e ∈ R p.1) : (nxt digs r0 p e).1 < n ∧ (nxt digs r0 p e).2 < digs.length := by
  refine ⟨K.num _ hp e he, ?_⟩
  show pl _ _ _ < _
  unfold pl; split <;> omega
/-- a row's parts that come to free pairs, each with what is known of the pair -/
theorem lE_sum (F : Fr R n digs r0 free) (K : Rk n R W) (hr : r0 < digs.length) {p : Nat × Nat} (hp : p.1 < n) (g : Nat × Nat → Int) : ((List.range free.length).map fun v => lE R digs r0 p (fA free v) * g (fA free v)).sum = ((R p.1).map fun e => if e.1 = digs.getD p.2 0 ∧ Aw R digs r0 (nxt digs r0 p e).1 (nxt digs r0 p e).2 then e.2.2 * g (nxt digs r0 p e) else 0).sum := by
  rw [Dt.sum_ext (g' := fun v => ((R p.1).map fun e => (if e.1 = digs.getD p.2 0 ∧ nxt digs r0 p e = fA free v then e.2.2 else 0) * g (fA free v)).sum) fun v _ => by unfold lE; rw [← s_mulr], s_swap]
  refine s_ext fun e he => ?_
  obtain ⟨h1, h2⟩ := nxt_lt K hr hp he
  by_cases c : e.1 = digs.getD p.2 0 ∧ Aw R digs r0 (nxt digs r0 p e).1 (nxt digs r0 p e).2
  · rw [if_pos c]
    obtain ⟨v, hv, ev⟩ := List.mem_iff_getElem.mp ((F.mem _).mpr ⟨h1, h2, c.2⟩)
    have ev' : fA free v = nxt digs r0 p e := by rw [fA_get hv]; exact ev
    rw [Dt.sum_one (s := v) List.nodup_range (List.mem_range.mpr hv) fun t ht ne => by
      rw [if_neg fun q => ne ((fA_inj F.nod (List.mem_range.mp ht) hv).mp (q.2.symm.trans ev'.symm)), Int.zero_mul], if_pos ⟨c.1, ev'.symm⟩, ev']
  · rw [if_neg c]
    refine s_zero fun v hv => ?_
    rw [if_neg fun q => c ⟨q.1, ?_⟩, Int.zero_mul]
    have hv := List.mem_range.mp hv
    have m := (F.mem (fA free v)).mp (by rw [fA_get hv]; exact List.getElem_mem hv)
    rw [q.2]; exact m.2.2
theorem fr_at (F : Fr R n digs r0 free) {u : Nat} (h : u < free.length) : (fA free u).1 < n ∧ (fA free u).2 < digs.length ∧ Aw R digs r0 (fA free u).1 (fA free u).2 := (F.mem _).mp (by rw [fA_get h]; exact List.getElem_mem h)
theorem lE_nn (K : Rk n R W) {p q : Nat × Nat} (hp : p.1 < n) : 0 ≤ lE R digs r0 p q := s_nn fun e he => by
  have := K.pp _ hp e he
  split <;> omega
theorem lM_zw (F : Fr R n digs r0 free) (K : Rk n R W) (hr : r0 < digs.length) : Dt.Zw free.length 0 (lM wl R W digs r0 free) := by
  have row : ∀ u, u < free.length → Dt.rsum (lM wl R W digs r0 free u) 0 (free.length - 0) = W - ((R (fA free u).1).map fun e => if e.1 = digs.getD (fA free u).2 0 ∧ Aw R digs r0 (nxt digs r0 (fA free u) e).1 (nxt digs r0 (fA free u) e).2 then e.2.2 else 0).sum := fun u hu => by
    have hp := (fr_at F hu).1
    have z := lE_sum F K hr hp fun _ => 1
    rw [Nat.sub_zero, Dt.rsum_zero, Dt.sum_ext (g' := fun v => (if u = v then W else 0) - lE R digs r0 (fA free u) (fA free v) * 1) fun v hv => by rw [lM_at (List.mem_range.mp hv), Int.mul_one], Dt.sum_sub, z, Dt.sum_one (s := u) List.nodup_range (List.mem_range.mpr hu) fun t _ ht => if_neg (Ne.symm ht), if_pos rfl]
    congr 2
    exact List.map_congr_left fun e _ => by simp
  refine ⟨fun u v _ hu _ hv ne => ?_, fun u _ hu => ?_, fun u _ hu => ?_⟩
  · rw [lM_at hv, if_neg ne]
    have := lE_nn (digs := digs) (r0 := r0) (q := fA free v) K (fr_at F hu).1
    omega
  · rw [row u hu]
    have hp := (fr_at F hu).1
    have h1 := K.tot _ hp
    unfold tot at h1
    have := s_le (l := R (fA free u).1) (g := fun e => if e.1 = digs.getD (fA free u).2 0 ∧ Aw R digs r0 (nxt digs r0 (fA free u) e).1 (nxt digs r0 (fA free u) e).2 then e.2.2 else 0) (h := fun e => e.2.2) fun e he => by
      have := K.pp _ hp e he
      show _ ≤ _
      split <;> omega
    omega
  · have leaf : ∀ u, u < free.length → ∀ e ∈ R (fA free u).1, e.1 ≠ digs.getD (fA free u).2 0 → Dt.Esc free.length 0 (lM wl R W digs r0 free) u := fun u hu e he ne => by
      refine .leaf (Nat.zero_le _) hu ?_
      rw [row u hu]
      have hp := (fr_at F hu).1
      have h1 := K.tot _ hp
      unfold tot at h1
      have h2 := s_sub (l := R (fA free u).1) (g := fun e => e.2.2) (h := fun e => if e.1 = digs.getD (fA free u).2 0 ∧ Aw R digs r0 (nxt digs r0 (fA free u) e).1 (nxt digs r0 (fA free u) e).2 then e.2.2 else 0)
      have h3 := s_mem (l := R (fA free u).1) (g := fun e => e.2.2 - if e.1 = digs.getD (fA free u).2 0 ∧ Aw R digs r0 (nxt digs r0 (fA free u) e).1 (nxt digs r0 (fA free u) e).2 then e.2.2 else 0) (fun e he => by
        have := K.pp _ hp e he
        show _ ≤ _
        split <;> omega) e he
      have h4 := K.pp _ hp e he
      rw [if_neg fun q => ne q.1] at h3
      omega
    have key : ∀ i k, Aw R digs r0 i k → ∀ u, u < free.length → fA free u = (i, k) → Dt.Esc free.length 0 (lM wl R W digs r0 free) u := by
      intro i k q
      induction q with
      | @off i k e he ne =>
        intro u hu eq
        exact leaf u hu e (by rw [eq]; exact he) (by rw [eq]; exact ne)
      | @on i k e he q ih =>
        intro u hu eq
        by_cases c : e.1 = digs.getD k 0
        · have hp := (fr_at F hu).1
          have he' : e ∈ R (fA free u).1 := by rw [eq]; exact he
          obtain ⟨h1, h2⟩ := nxt_lt K hr hp he'
          have en : nxt digs r0 (fA free u) e = (e.2.1, pl digs.length r0 (k + 1)) := by rw [eq]; rfl
          rw [en] at h1 h2
          obtain ⟨v, hv, ev⟩ := List.mem_iff_getElem.mp ((F.mem _).mpr ⟨h1, h2, q⟩)
          have ev' : fA free v = (e.2.1, pl digs.length r0 (k + 1)) := by rw [fA_get hv]; exact ev
          have E := ih v hv ev'
          by_cases d : u = v
          · subst d; exact E
          · refine .step (Nat.zero_le _) hu (Nat.zero_le _) hv d ?_ E
            rw [lM_at hv, if_neg d]
            have := s_mem (l := R (fA free u).1) (g := fun e => if e.1 = digs.getD (fA free u).2 0 ∧ nxt digs r0 (fA free u) e = fA free v then e.2.2 else 0) (fun e he => by
              have := K.pp _ hp e he
              show _ ≤ _
              split <;> omega) e he'
            rw [if_pos ⟨by rw [eq]; exact c, by rw [en, ev']⟩] at this
            have := K.pp _ hp e he'
            show (0 : Int) - lE _ _ _ _ _ < 0
            unfold lE
            omega
        · exact leaf u hu e (by rw [eq]; exact he) (by rw [eq]; exact c)
    exact key _ _ (fr_at F hu).2.2 u hu rfl
/-- what the law's unknowns come to, by what the program found -/
noncomputable def yA (wl : Bool) (R : Nat → List Tri) (W : Int) (n : Nat) (digs : List Int) (r0 : Nat) (p : Nat × Nat) : Int := if wl = true then qA wl R W n digs r0 - zA wl R W n digs r0 p.2 p.1 else zA wl R W n digs r0 p.2 p.1
theorem yA_sol (F : Fr R n digs r0 free) (K : Rk n R W) (hr : r0 < digs.length) {u : Nat} (hu : u < free.length) : ((List.range free.length).map fun v => lM wl R W digs r0 free u v * yA wl R W n digs r0 (fA free v)).sum = qA wl R W n digs r0 * lM wl R W digs r0 free u free.length := by
  obtain ⟨hp, hk, _⟩ := fr_at F hu
  rw [lM_last]
  rw [Dt.sum_ext (g' := fun v => (if u = v then W * yA wl R W n digs r0 (fA free u) else 0) - lE R digs r0 (fA free u) (fA free v) * yA wl R W n digs r0 (fA free v)) fun v hv => by
    rw [lM_at (List.mem_range.mp hv), Int.sub_mul]
    by_cases c : u = v
    · subst c; rw [if_pos rfl, if_pos rfl]
    · rw [if_neg c, if_neg c, Int.zero_mul], Dt.sum_sub, lE_sum F K hr hp, Dt.sum_one (s := u) List.nodup_range (List.mem_range.mpr hu) fun t _ ht => if_neg (Ne.symm ht), if_pos rfl]
  have st := zA_step (wl := wl) K hr hk hp
  generalize fA free u = p at hp hk st ⊢
  have hs : ∀ e ∈ R p.1, ¬ Aw R digs r0 (nxt digs r0 p e).1 (nxt digs r0 p e).2 → zA wl R W n digs r0 (pl digs.length r0 (p.2 + 1)) e.2.1 = qA wl R W n digs r0 := fun e he a => by
    obtain ⟨h1, h2⟩ := nxt_lt K hr hp he
    exact zA_stay K hr h2 h1 a
  unfold lS
  rw [← s_mul]
  cases wl with
  | false =>
    simp only [yA, Bool.false_eq_true, if_false, false_and, and_false, false_or, true_and] at st ⊢
    rw [st, ← s_sub]
    refine s_ext fun e he => ?_
    by_cases c : e.1 = digs.getD p.2 0
    · rw [if_pos c]
      by_cases a : Aw R digs r0 (nxt digs r0 p e).1 (nxt digs r0 p e).2
      · rw [if_pos ⟨c, a⟩, if_neg fun q => q.2 a]
        show e.2.2 * zA _ _ _ _ _ _ _ _ - e.2.2 * zA _ _ _ _ _ _ _ _ = _
        rw [Int.mul_zero]; exact Int.sub_self _
      · rw [if_neg fun q => a q.2, if_pos ⟨c, a⟩, hs e he a, Int.sub_zero, Int.mul_comm]
    · rw [if_neg c, if_neg fun q => c q.1, if_neg fun q => c q.1, Int.mul_zero]; rfl
  | true =>
    simp only [yA, if_true, and_true, true_and, Bool.true_eq_false, false_and, or_false] at st ⊢
    have tw : W * qA true R W n digs r0 = ((R p.1).map fun e => e.2.2 * qA true R W n digs r0).sum := by
      rw [s_mulr]
      show _ = tot (R p.1) * _
      rw [K.tot _ hp]
    rw [Int.mul_sub, st, tw, ← s_sub, ← s_sub]
    refine s_ext fun e he => ?_
    by_cases c : e.1 = digs.getD p.2 0
    · rw [if_pos c, if_neg (show ¬ digs.getD p.2 0 < e.1 by omega), Int.mul_zero]
      by_cases a : Aw R digs r0 (nxt digs r0 p e).1 (nxt digs r0 p e).2
      · rw [if_pos ⟨c, a⟩]
        show e.2.2 * _ - e.2.2 * zA _ _ _ _ _ _ _ _ - e.2.2 * (_ - zA _ _ _ _ _ _ _ _) = _
        rw [Int.mul_sub]; exact Int.sub_self _
      · rw [if_neg fun q => a q.2, hs e he a]; omega
    · rw [if_neg c, if_neg fun (q : e.1 = digs.getD p.2 0 ∧ _) => c q.1]
      by_cases l : e.1 < digs.getD p.2 0
      · rw [if_pos l, if_neg (show ¬ digs.getD p.2 0 < e.1 by omega), Int.mul_zero]; omega
      · rw [if_neg l, if_pos (show digs.getD p.2 0 < e.1 by omega), Int.mul_comm (qA _ _ _ _ _ _)]; omega
/-- the law's solution -/
theorem law_sol (F : Fr R n digs r0 free) (K : Rk n R W) (hr : r0 < digs.length) {u : Nat} (hu : u < free.length) : qA wl R W n digs r0 * Dt.mS (lM wl R W digs r0 free) free.length u free.length = Dt.md (lM wl R W digs r0 free) free.length * yA wl R W n digs r0 (fA free u) :=
  (lM_zw F K hr).uniq (x := fun t => Dt.mS (lM wl R W digs r0 free) free.length t free.length) (y := fun t => yA wl R W n digs r0 (fA free t)) (b := fun i => lM wl R W digs r0 free i free.length) (fun i hi => (lM_zw F K hr).sol hi _) (fun i hi => yA_sol F K hr hi) u hu
/-- what the program tells: a top over a bottom -/
noncomputable def pT (wl : Bool) (R : Nat → List Tri) (W : Int) (n : Nat) (stem ring : List Int) (i : Nat) : Int := gB wl R W 0 (rgD wl R W n (stem ++ ring) stem.length) (fun i _ => rgC wl R W n (stem ++ ring) stem.length i) stem i 0
noncomputable def pB (wl : Bool) (R : Nat → List Tri) (W : Int) (n : Nat) (stem ring : List Int) : Int := rgD wl R W n (stem ++ ring) stem.length * W ^ stem.length
theorem pB_pos {stem ring : List Int} (K : Rk n R W) : 0 < pB wl R W n stem ring := Int.mul_pos (mPd_pos (rg_pk K)) (K.wp _)
theorem gB_cong (K : Rk n R W) {s : Int} {z : Nat} {F G : Nat → Nat → Int} {j : Nat} (h : ∀ i, i < n → F i j = G i j) : ∀ ds : List Int, ∀ i, i < n → gB wl R W z s F ds i j = gB wl R W z s G ds i j
  | [], i, hi => h i hi
  | d :: ds, i, hi => s_ext fun e he => by rw [gB_cong K h ds _ (K.num i hi e he)]
theorem zA_prog {stem ring : List Int} (K : Rk n R W) (hr : ring ≠ []) {i : Nat} (hi : i < n) : zA wl R W n (stem ++ ring) stem.length 0 i = W ^ ring.length * pT wl R W n stem ring i := by
  have hl : stem.length < (stem ++ ring).length := by
    rw [List.length_append]
    have := List.length_pos_iff.mpr hr
    omega
  unfold zA vA pT
  rw [List.drop_zero, gB_app, Int.pow_zero, Int.one_mul]
  have e : (stem ++ ring).length - stem.length = ring.length := by rw [List.length_append]; omega
  have h1 : ∀ i, i < n → gB wl R W 0 (rgD wl R W n (stem ++ ring) stem.length) (fun i _ => rgC wl R W n (stem ++ ring) stem.length i) ring i 0 = W ^ ring.length * rgC wl R W n (stem ++ ring) stem.length i := fun i hi => by
    have := vA_ring (wl := wl) K hl hi
    unfold vA at this
    rw [List.drop_left, e] at this
    exact this
  rw [gB_cong K (G := fun i _ => W ^ ring.length * rgC wl R W n (stem ++ ring) stem.length i) h1 stem i hi, Int.mul_comm (rgD _ _ _ _ _ _)]
  exact congrFun (congrFun (gB_mul (wl := wl) (R := R) (W := W) (z := 0) (s := rgD wl R W n (stem ++ ring) stem.length) (F := fun i _ => rgC wl R W n (stem ++ ring) stem.length i) (W ^ ring.length) stem) i) 0
theorem q_prog {stem ring : List Int} : qA wl R W n (stem ++ ring) stem.length = W ^ ring.length * pB wl R W n stem ring := by
  unfold qA pB
  rw [List.length_append, Int.pow_add]; ac_rfl
theorem prog_sure {stem ring : List Int} (K : Rk n R W) (hr : ring ≠ []) {i : Nat} (hi : i < n) (a : ¬ Aw R (stem ++ ring) stem.length i 0) : pT wl R W n stem ring i = pB wl R W n stem ring := by
  have hl : stem.length < (stem ++ ring).length := by
    rw [List.length_append]
    have := List.length_pos_iff.mpr hr
    omega
  have z := zA_stay (wl := wl) K hl (by omega) hi a
  rw [zA_prog K hr hi, q_prog] at z
  exact Int.eq_of_mul_eq_mul_left (Int.ne_of_gt (K.wp _)) z
theorem prog_free {stem ring : List Int} (F : Fr R n (stem ++ ring) stem.length free) (K : Rk n R W) (hr : ring ≠ []) {u i : Nat} (hu : u < free.length) (hi : fA free u = (i, 0)) :
    pB wl R W n stem ring * Dt.mS (lM wl R W (stem ++ ring) stem.length free) free.length u free.length = Dt.md (lM wl R W (stem ++ ring) stem.length free) free.length * (if wl = true then pB wl R W n stem ring - pT wl R W n stem ring i else pT wl R W n stem ring i) := by
  have hl : stem.length < (stem ++ ring).length := by
    rw [List.length_append]
    have := List.length_pos_iff.mpr hr
    omega
  have z := law_sol (wl := wl) F K hl hu
  have h0 := (fr_at F hu).1
  rw [hi] at h0
  rw [hi, q_prog] at z
  unfold yA at z
  rw [zA_prog K hr h0, q_prog] at z
  refine Int.eq_of_mul_eq_mul_left (Int.ne_of_gt (K.wp ring.length)) ?_
  rw [← Int.mul_assoc, z]
  split
  · rw [← Int.mul_sub]; ac_rfl
  · ac_rfl
end
end My.Rg

set_option linter.all false
namespace My
open PySem PySem.Spec PyProof.Rows L2 RT
abbrev sGb : Stmt := topS 17
def linF (F : Nat → Nat → Int) (m i : Nat) : List Int := (List.range m).map (F i)
abbrev Rf (R : List (List Tri)) (i : Nat) : List Tri := R.getD i []
theorem gE_snoc {wl : Bool} {d s : Int} {F : Nat → Nat → Int} {z j : Nat} {es : List Tri} {e : Tri} : Rg.gE wl d s F z (es ++ [e]) j = Rg.gE wl d s F z es j + (if e.1 = d then e.2.2 * F e.2.1 j else if e.1 < d ∧ wl = true ∧ j = z then e.2.2 * s else 0) := by
  unfold Rg.gE
  rw [List.map_append, List.sum_append]
  simp
theorem walk_revT {K : PySem.W.Frag} {a : Addr} {xs : List V} : Walk (RT.ItvT K a xs.length) xs.length (fun H => SqT K H a xs) (fun i H x H' => H' = H ∧ xs[xs.length - 1 - i]? = some x) where
  goes := fun i H h g => ⟨h, xs, xs[xs.length - 1 - i]'(by omega), g, List.getElem?_eq_getElem (by omega)⟩
  stops := fun _ _ => Nat.le_refl _
  yields := fun i H x H' _ g y => ⟨y.1, y.2 xs g⟩
theorem lin_len (F : Nat → Nat → Int) (m i : Nat) : (linF F m i).length = m := by unfold linF; rw [List.length_map, List.length_range]
theorem lin_at {F : Nat → Nat → Int} {m i j : Nat} (h : j < m) : ((linF F m i).map V.int)[j]? = some (V.int (F i j)) := by
  unfold linF
  rw [List.getElem?_map, List.getElem?_map, List.getElem?_range h]; rfl
theorem ixN_m1 (n : Nat) : ixN (n + 1) (-1) = some n := by
  unfold ixN
  simp <;> omega
theorem atI_m1 {F : Nat → Nat → Int} {z i : Nat} : atI ((linF F (z + 1) i).map V.int) (-1) = some (V.int (F i z)) := by
  unfold atI
  rw [List.length_map, lin_len, ixN_m1]
  exact lin_at (Nat.lt_succ_self z)
structure TgC (mg : Str → Option Value) : Prop where
  len : mg "len" = none
  range : mg "range" = none
  zip : mg "zip" = none
  list : mg "list" = none
  sum : mg "sum" = none
  reversed : mg "reversed" = none
  int : mg "int" = none
theorem wp_mono {W : Int} (h : 0 < W) (t : Nat) : ∀ u, W ^ t ≤ W ^ (t + u)
  | 0 => Int.le_refl _
  | u + 1 => by
    have ih := wp_mono h t u
    rw [show t + (u + 1) = (t + u) + 1 by omega, Int.pow_succ]
    have := Int.mul_le_mul_of_nonneg_left (show (1 : Int) ≤ W by omega) (Int.le_of_lt (show 0 < W ^ (t + u) from Int.pow_pos h))
    omega
/-- numbers that lines come to -/
structure GbOk (n : Nat) (R : Nat → List Tri) (W : Int) (z : Nat) (s : Int) (F : Nat → Nat → Int) (k : Nat) (M : Int) : Prop where
  rk : Rg.Rk n R W
  n0 : 0 < n
  n8 : n ≤ 8
  z8 : z ≤ 8
  bW : W.natAbs < 2 ^ 64
  bs : (s.natAbs : Int) ≤ M
  bF : ∀ i, i < n → ∀ j, ((F i j).natAbs : Int) ≤ M
  bM : M * W ^ k < 2 ^ 7000
theorem GbOk.up {n : Nat} {R : Nat → List Tri} {W : Int} {z : Nat} {s : Int} {F : Nat → Nat → Int} {k t : Nat} {M : Int} (h : GbOk n R W z s F k M) (ht : t ≤ k) : M * W ^ t < 2 ^ 7000 := by
  have M0 : 0 ≤ M := by have := h.bs; omega
  have := Int.mul_le_mul_of_nonneg_left (show W ^ t ≤ W ^ k by have := wp_mono h.rk.pos t (k - t); rwa [show t + (k - t) = k by omega] at this) M0
  have := h.bM
  omega
theorem GbOk.sz {n : Nat} {R : Nat → List Tri} {W : Int} {z : Nat} {s : Int} {F : Nat → Nat → Int} {k t : Nat} {M : Int} (h : GbOk n R W z s F k M) (ht : t ≤ k) : (s * W ^ t).natAbs < 2 ^ 7000 := by
  have h1 := h.up ht
  have h2 := Int.mul_le_mul_of_nonneg_right h.bs (Int.le_of_lt (h.rk.wp t))
  have h3 := h.rk.wp t
  have e : (((s * W ^ t).natAbs : Nat) : Int) = (s.natAbs : Int) * W ^ t := by rw [Int.natAbs_mul, Int.natCast_mul, Int.natAbs_of_nonneg (Int.le_of_lt h3)]
  have : (((s * W ^ t).natAbs : Nat) : Int) < ((2 ^ 7000 : Nat) : Int) := by rw [e]; push_cast; omega
  exact Int.ofNat_lt.mp this
theorem GbOk.ent {wl : Bool} {n : Nat} {R : Nat → List Tri} {W : Int} {z : Nat} {s : Int} {F : Nat → Nat → Int} {k : Nat} {M : Int} (h : GbOk n R W z s F k M) {ds : List Int} (ht : ds.length ≤ k) {i : Nat} (hi : i < n) (j : Nat) : (Rg.gB wl R W z s F ds i j).natAbs < 2 ^ 7000 := by
  have h1 := h.up ht
  have h2 := Rg.gB_abs (wl := wl) (z := z) h.rk h.bs h.bF ds i hi j
  have : (((Rg.gB wl R W z s F ds i j).natAbs : Nat) : Int) < ((2 ^ 7000 : Nat) : Int) := by push_cast; omega
  exact Int.ofNat_lt.mp this
theorem GbOk.part {n : Nat} {R : Nat → List Tri} {W : Int} {z : Nat} {s : Int} {F : Nat → Nat → Int} {k : Nat} {M : Int} (h : GbOk n R W z s F k M) {i : Nat} (hi : i < n) {e : Tri} (he : e ∈ R i) : e.2.2.natAbs < 2 ^ 64 := by
  have h1 := Rg.s_mem (g := fun e : Tri => e.2.2) (l := R i) (fun e he => Int.le_of_lt (h.rk.pp i hi e he)) e he
  have h2 := h.rk.tot i hi
  have h3 := h.rk.pp i hi e he
  unfold Rg.tot at h2
  have h4 := h.bW
  omega
section
variable {P : Program} {w : World} {K : PySem.W.Frag} {mg : Str → Option Value} {base : Heap}
theorem scGb : FnScope ["whole", "rows", "digits", "with_less", "lines", "size", "digit", "found", "row", "line", "own", "number", "parts", "one", "other"] ["whole", "rows", "digits", "with_less", "lines", "size"] (defScope sGb) := ⟨rfl, rfl, rfl, by decide +kernel, rfl, by decide +kernel, by decide +kernel⟩
def spGb : Sp := fun vs H Q _ => ∃ (W s : Int) (rr dg a : Addr) (wl : Bool) (R : List (List Tri)) (digs : List Int) (z : Nat) (F : Nat → Nat → Int) (M : Int), vs = [.int W, .ref rr, .ref dg, .bl wl, .ref a, .int s] ∧ TriL H rr R ∧ H dg = some (.tup (digs.map V.int)) ∧ MatL H a R.length (linF F (z + 1)) ∧ GbOk R.length (Rf R) W z s F digs.length M ∧
  ∀ (T L : Addr) (H' : Hp), Same H H' → H' T = some (.tup [.ref L, .int (s * W ^ digs.length)]) → MatL H' L R.length (linF (Rg.gB wl (Rf R) W z s F digs) (z + 1)) → Q (.ref T) H'
set_option maxHeartbeats 1000000 in
theorem ok_gb {f : Addr} {fd : FuncData} (F0 : Fun K "_gone_back" "_gone_back" sGb f fd) (T : TgC mg) : FnOk P w K mg base CX0 1 f fd ["whole", "rows", "digits", "with_less", "lines", "size"] spGb := by
  refine F0.ok scGb (fun vs H Q E h => ?_) (fun cdv A outer s0 H vs Q E hr h => ?_)
  · obtain ⟨W, s, rr, dg, a, wl, R, digs, z, F, M, rfl, _⟩ := h
    rfl
  · obtain ⟨W, s, rr, dg, a, wl, R, digs, z, F, M, rfl, hR, hdg, hM, B, k⟩ := h
    refine ⟨_, (pss_cons (ps_for PassesOwn.never rfl (pi_revA (by rfl) T.reversed (pv 2)) (pg_name (i := 6) scGb.nd rfl (Or.inl rfl)) (pss_cons (ps_set (i := 7) scGb.nd rfl (Or.inl rfl) (pe_lst pa_nil))
      (pss_cons (ps_for PassesOwn.never rfl (pi_list (pv 1)) (pg_name (i := 8) scGb.nd rfl (Or.inl rfl)) (pss_cons (ps_set (i := 9) scGb.nd rfl (Or.inl rfl) (pe_op op_rep (pe_lst (pa_cons pe_int pa_nil)) (pe_callB call_len_seq (by rfl) T.len PySem.boot_len (pa_cons (pe_ix ix_list (pv 4) pe_int (fun _ _ => rfl)) pa_nil))))
      (pss_cons (ps_for PassesOwn.never rfl (pi_list (pv 8)) (pg_tup (by rfl) (pgs_cons (pg_name (i := 10) scGb.nd rfl (Or.inl rfl)) (pgs_cons (pg_name (i := 11) scGb.nd rfl (Or.inl rfl)) (pgs_cons (pg_name (i := 12) scGb.nd rfl (Or.inr rfl)) pgs_nil)))) (pss_one (ps_if (pt_cmpR op_eq (pv 10) (pv 6) (nomark _)) (pss_one (ps_setLc (i := 9) (own := [("one", 13), ("other", 14)]) (g := gTup K 2 (gCons (gName 13) (gCons (gName 14) gNil))) (tt := tYes) rfl scGb.nd rfl (by rfl) (sw_true (by rfl) (by rfl) (by rfl) (by rfl)) (pi_zip (by rfl) T.zip (pa_cons (pv 9) (pa_cons (pe_ix ix_list (pv 4) (pv 11) (fun _ _ => rfl)) pa_nil))) (blkOk_by (N := ["whole", "rows", "digits", "with_less", "lines", "size", "digit", "found", "row", "line", "own", "number", "parts", "one", "other"]) (sc := defScope sGb) (by decide +kernel)) (fun _ _ _ _ _ => (pg_tup (by rfl) (pgs_cons (pg_name (i := 13) scGb.nd rfl (Or.inl rfl)) (pgs_cons (pg_name (i := 14) scGb.nd rfl (Or.inl rfl)) pgs_nil)))) (fun _ _ _ _ _ => pts_nil) (fun _ _ _ _ _ => (pe_op op_add (pv 13) (pe_op (show OpR _ _ (rI CMulW fun i j => .int (i * j)) from op_mulW) (pv 12) (pv 14)))))) (pss_one (ps_if (PW.pt (pw_and (pt_cmpR op_lt (pv 10) (pv 6) (nomark _)) (pw_and1 (pt_val (pv 3))))) (pss_one (ps_augS (pv 9) (pe_un un_neg pe_int) get_list (pe_op op_mulW (pv 12) (pv 5)) ip_add set_list)) pss_nil)))))
      (pss_one (ps_expr (pe_bm PySem.F.plainAttrs_list PySem.F.slot_list_append PySem.F.type_list_append mt_append (pv 7) (pa_cons (pv 9) pa_nil)))))))
      (pss_cons (ps_set (i := 4) scGb.nd rfl (Or.inl rfl) (pv 7))
      (pss_one (ps_set (i := 5) scGb.nd rfl (Or.inl rfl) (pe_op op_mulW (pv 5) (pv 0))))))))
      (pss_one (ps_ret (pe_tup (pa_cons (pv 4) (pa_cons (pv 5) pa_nil)))))), ?_⟩
    obtain ⟨qs, h1, h2, h3⟩ := hR.ex
    have ld : (digs.map V.int).length = digs.length := List.length_map _
    refine ⟨_, rfl, dg, _, rfl, .inr ⟨SqT.of hdg, ?_⟩⟩
    refine for_it walk_revT (fun t σ Ho => Same H Ho ∧ ∃ (l : Addr) (y6 y7 y8 y9 y10 y11 y12 : Option V), σ = [some (.int W), some (.ref rr), some (.ref dg), some (.bl wl), some (.ref l), some (.int (s * W ^ t)), y6, y7, y8, y9, y10, y11, y12, none, none] ∧ MatL Ho l R.length (linF (Rg.gB wl (Rf R) W z s F (digs.drop (digs.length - t))) (z + 1))) ?_ ?_ ?_ ?_
    · refine ⟨Same.refl _, a, _, _, _, _, _, _, _, by rw [Int.pow_zero, Int.mul_one]; rfl, ?_⟩
      rw [Nat.sub_zero, List.drop_of_length_le (Nat.le_refl _)]
      exact hM
    · exact fun i σ Ho _ q => SqT.of (q.1 _ _ hdg)
    · rintro t x σ Ho0 Ho ht ⟨sa, l, y6, y7, y8, y9, y10, y11, y12, rfl, hl⟩ ⟨rfl, hx⟩
      rw [ld] at ht hx
      obtain ⟨d, hd⟩ : ∃ d, digs[digs.length - 1 - t]? = some d := ⟨digs[digs.length - 1 - t], List.getElem?_eq_getElem (by omega)⟩
      rw [List.getElem?_map, hd] at hx
      obtain rfl := Option.some.inj hx
      have dr : digs.drop (digs.length - (t + 1)) = d :: digs.drop (digs.length - t) := by
        rw [Rg.drop_cons (show digs.length - (t + 1) < digs.length by omega), show digs.length - (t + 1) + 1 = digs.length - t by omega, List.getD_eq_getElem?_getD, show digs.length - (t + 1) = digs.length - 1 - t by omega, hd]; rfl
      have dl : (digs.drop (digs.length - t)).length = t := by rw [List.length_drop]; omega
      have bE := fun {i : Nat} (hi : i < R.length) (j : Nat) => B.ent (wl := wl) (ds := digs.drop (digs.length - t)) (by rw [dl]; omega) hi j
      have bS := B.sz (t := t) (by omega)
      obtain ⟨G, hG⟩ : ∃ G, Rg.gB wl (Rf R) W z s F (digs.drop (digs.length - t)) = G := ⟨_, rfl⟩
      rw [hG] at hl bE
      obtain ⟨ls, l1, l2, l3⟩ := hl.ex
      refine ⟨by show 0 ≤ sizeLine; exact Nat.zero_le _, fun D nD => ?_⟩
      have sD := same_upd (o := .lst []) nD
      refine ⟨_, rfl, rr, rfl, ⟨_, SqL.of (sD _ _ (sa _ _ h1))⟩, ?_⟩
      refine for_it (walk_list (K := K) (a := rr) (xs := qs.map V.ref)) (fun i σ Hi => Same Ho Hi ∧ ∃ (ds : List Addr) (y8 y9 y10 y11 y12 : Option V), σ = [some (.int W), some (.ref rr), some (.ref dg), some (.bl wl), some (.ref l), some (.int (s * W ^ t)), some (.int d), some (.ref D), y8, y9, y10, y11, y12, none, none] ∧ Hi D = some (.lst (ds.map V.ref)) ∧ ds.length = i ∧ ∀ (j : Nat) (q : Addr), ds[j]? = some q → q ≠ D ∧ Hi q = some (.lst ((linF (fun i j => Rg.gE wl d (s * W ^ t) G z (Rf R i) j) (z + 1) j).map V.int))) ?_ ?_ ?_ ?_
      · exact ⟨sD, [], _, _, _, _, _, rfl, upd_same, rfl, fun j q z => by simp at z⟩
      · exact fun i σ Hi _ q => SqL.of (q.1 _ _ (sa _ _ h1))
      · rintro i x σ Hi0 Hi hi ⟨sb, ds, y8, y9, y10, y11, y12, rfl, hD, lds, hds⟩ ⟨rfl, hx⟩
        rw [List.length_map, h2] at hi
        obtain ⟨q, hq⟩ : ∃ q, qs[i]? = some q := ⟨qs[i], List.getElem?_eq_getElem (by omega)⟩
        rw [List.getElem?_map, hq] at hx
        obtain rfl := Option.some.inj hx
        obtain ⟨ts, k1, k2, k3⟩ := h3 i q _ hq (List.getElem?_eq_getElem hi)
        have es0 : Rf R i = R[i] := getD_at (List.getElem?_eq_getElem hi)
        have bP := fun {e : Tri} (he : e ∈ R[i]) => B.part hi (e := e) (by rw [es0]; exact he)
        have bN := fun {e : Tri} (he : e ∈ R[i]) => B.rk.num i hi e (by rw [es0]; exact he)
        generalize R[i] = es at k2 k3 es0 bP bN
        obtain ⟨l0, hl0⟩ : ∃ q, ls[0]? = some q := ⟨ls[0]'(by have := B.n0; omega), List.getElem?_eq_getElem (by have := B.n0; omega)⟩
        refine ⟨by show 1 ≤ sizeLine; rw [sizeLine_eq]; decide, fun p1 n1 => ?_⟩
        have s1 := same_upd (o := .lst [.int 0]) n1
        refine ⟨_, rfl, l, _, _, _, rfl, rfl, SqL.of (s1 _ _ (sb _ _ l1)), atI_nat (i := 0) (by rw [List.getElem?_map, hl0]; rfl), l0, _, rfl, Or.inl (SqL.of (s1 _ _ (sb _ _ (l3 0 l0 hl0)))), ?_⟩
        rw [List.length_map, lin_len]
        refine ⟨p1, _, _, rfl, rfl, upd_same, by omega, by have := B.z8; omega, by rw [sizeLine_eq]; have := B.z8; simp; omega, fun p2 n2 => ?_⟩
        rw [show (((z + 1 : Nat) : Int)).toNat = z + 1 from Int.toNat_natCast _]
        have s2 := same_upd (o := .lst (List.replicate (z + 1) [V.int 0]).flatten) n2
        have fl : (List.replicate (z + 1) [V.int 0]).flatten = (linF (fun _ j => Rg.gE wl d (s * W ^ t) G z (es.take 0) j) (z + 1) 0).map V.int := by
          have : linF (fun _ j => Rg.gE wl d (s * W ^ t) G z (es.take 0) j) (z + 1) 0 = List.replicate (z + 1) 0 := by
            unfold linF
            rw [List.take_zero]
            exact List.ext_getElem (by simp) fun i _ _ => by simp [Rg.gE]
          rw [this, List.map_replicate]
          induction z + 1 with
          | zero => rfl
          | succ m ih => rw [List.replicate_succ, List.flatten_cons, ih]; rfl
        rw [fl] at s2 ⊢
        have n2' : Hi p2 = none := s1.free n2
        have s12 := s1.trans s2
        have hp2 := upd_same (H := upd Hi p1 (.lst [.int 0])) (a := p2) (o := .lst ((linF (fun _ j => Rg.gE wl d (s * W ^ t) G z (es.take 0) j) (z + 1) 0).map V.int))
        generalize upd (upd Hi p1 (.lst [.int 0])) p2 (.lst ((linF (fun _ j => Rg.gE wl d (s * W ^ t) G z (es.take 0) j) (z + 1) 0).map V.int)) = H2 at s12 hp2 ⊢
        refine ⟨_, rfl, q, rfl, ⟨_, SqL.of (s12 _ _ (sb _ _ (sa _ _ k1)))⟩, ?_⟩
        refine for_it (walk_list (K := K) (a := q) (xs := ts.map V.ref)) (fun j σ Hj => Same Hi Hj ∧ ∃ (p : Addr) (y10 y11 y12 : Option V), σ = [some (.int W), some (.ref rr), some (.ref dg), some (.bl wl), some (.ref l), some (.int (s * W ^ t)), some (.int d), some (.ref D), some (.ref q), some (.ref p), y10, y11, y12, none, none] ∧ Hi p = none ∧ Hj p = some (.lst ((linF (fun _ u => Rg.gE wl d (s * W ^ t) G z (es.take j) u) (z + 1) 0).map V.int))) ?_ ?_ ?_ ?_
        · exact ⟨s12, p2, _, _, _, rfl, n2', hp2⟩
        · exact fun j σ Hj _ w => SqL.of (w.1 _ _ (sb _ _ (sa _ _ k1)))
        · rintro j x σ Hj0 Hj hj ⟨sj, p, y10, y11, y12, rfl, np, hp⟩ ⟨rfl, hx⟩
          rw [List.length_map] at hj
          have htj := List.getElem?_eq_getElem hj
          generalize ts[j] = tj at htj
          rw [List.getElem?_map, htj] at hx
          obtain rfl := Option.some.inj hx
          have hej := List.getElem?_eq_getElem (show j < es.length by omega)
          have em := List.getElem_mem (show j < es.length by omega)
          have tk : es.take (j + 1) = es.take j ++ [es[j]] := by rw [List.take_add_one, hej]; rfl
          have kt := k3 j tj _ htj hej
          generalize es[j] = e at hej em tk kt
          have kt2 := sj _ _ (sb _ _ (sa _ _ kt))
          refine ⟨tj, _, rfl, SqT.of kt2, rfl, _, _, rfl, _, _, rfl, _, _, rfl, rfl, ?_⟩
          refine ⟨_, rfl, _, rfl, rfl, _, rfl, ?_⟩
          have nn := bN em
          obtain ⟨lq, hlq⟩ : ∃ q, ls[e.2.1]? = some q := ⟨ls[e.2.1], List.getElem?_eq_getElem (by omega)⟩
          have hlq2 := l3 _ _ hlq
          by_cases c : e.1 = d
          · refine ifT (by rw [c]; exact decide_eq_true rfl) ?_
            have hlq3 := sj _ _ (sb _ _ hlq2)
            refine ⟨_, rfl, _, rfl, _, rfl, l, _, _, _, rfl, rfl, SqL.of (sj _ _ (sb _ _ l1)), atI_nat (by rw [List.getElem?_map, hlq]; rfl), p, lq, _, _, rfl, SqL.of hp, SqL.of hlq3, fun D5 nD5 => ?_⟩
            refine lc_gen (walk_zip (K := K) (n := z + 1) (by rw [List.length_map, List.length_map, lin_len, lin_len, Nat.min_self])) (fun _ => true) (fun u => .int (Rg.gE wl d (s * W ^ t) G z (es.take (j + 1)) u)) nD5 (by rw [sizeLine_eq]; have := B.z8; omega) (fun Hc sc => ⟨SqL.of (sc _ _ hp), SqL.of (sc _ _ hlq3)⟩) (fun u x Hc Hd hu sc yy Q3 R3 q3 r3 => ?_) fun Hc sc hDc => ?_
            · obtain ⟨T1, v1, v2, rfl, nT, rfl, e1, e2⟩ := yy
              replace e1 : ((linF (fun _ u => Rg.gE wl d (s * W ^ t) G z (es.take j) u) (z + 1) 0).map V.int)[u]? = some v1 := e1
              replace e2 : ((linF G (z + 1) e.2.1).map V.int)[u]? = some v2 := e2
              rw [lin_at hu] at e1 e2
              obtain rfl := Option.some.inj e1
              obtain rfl := Option.some.inj e2
              refine ⟨T1, _, rfl, SqT.of upd_same, rfl, _, _, rfl, _, _, rfl, rfl, rfl, tyes ?_⟩
              refine ⟨_, rfl, _, rfl, _, rfl, _, _, rfl, rfl, wide_mul (bP em) (bE nn u) (by decide) (by decide) (by decide), _, _, rfl, rfl, ?_⟩
              have ev : Rg.gE wl d (s * W ^ t) G z (es.take (j + 1)) u = Rg.gE wl d (s * W ^ t) G z (es.take j) u + e.2.2 * G e.2.1 u := by
                rw [tk, gE_snoc, if_pos c]
              dsimp only
              rw [← ev]
              exact q3 rfl _ (same_upd nT)
            · refine ⟨sj.trans sc, D5, _, _, _, rfl, sj.free nD5, ?_⟩
              rw [hDc, range_all _ (fun _ => true)]
              unfold linF
              rw [List.map_map]; rfl
          · refine ifF (decide_eq_false fun q => c (by injection q)) ?_
            refine ⟨_, rfl, _, rfl, _, _, rfl, rfl, ?_⟩
            refine ⟨_, rfl, ?_⟩
            have keep : ¬ (e.1 < d ∧ wl = true) → ∀ u, Rg.gE wl d (s * W ^ t) G z (es.take (j + 1)) u = Rg.gE wl d (s * W ^ t) G z (es.take j) u := fun q u => by
              rw [tk, gE_snoc, if_neg c, if_neg fun y => q ⟨y.1, y.2.1⟩, Int.add_zero]
            have same' : ¬ (e.1 < d ∧ wl = true) → Hj p = some (.lst ((linF (fun _ u => Rg.gE wl d (s * W ^ t) G z (es.take (j + 1)) u) (z + 1) 0).map V.int)) := fun q => by
              rw [hp]
              unfold linF
              exact congrArg (fun l => some (HO.lst (l.map V.int))) (List.map_congr_left fun u _ => (keep q u).symm)
            dsimp only
            by_cases c2 : e.1 < d
            · rw [decide_eq_true c2, if_pos rfl]
              refine ⟨_, rfl, wl, rfl, ?_⟩
              cases wl with
              | false => exact ⟨sj, p, _, _, _, rfl, np, same' fun q => by cases q.2⟩
              | true =>
                rw [if_pos rfl]
                refine ⟨_, rfl, _, rfl, p, _, _, _, rfl, rfl, SqL.of hp, atI_m1, ?_⟩
                refine ⟨_, rfl, _, rfl, _, _, rfl, rfl, wide_mul (bP em) bS (by decide) (by decide) (by decide), _, _, rfl, rfl, p, _, _, z, rfl, rfl, hp, by rw [List.length_map, lin_len]; exact ixN_m1 z, ?_⟩
                refine ⟨fun a o e => by rw [upd_ne (fun w => by rw [w, np] at e; cases e)]; exact sj _ _ e, p, _, _, _, rfl, np, ?_⟩
                rw [upd_same, ← List.map_set]
                refine congrArg (fun l => some (HO.lst (l.map V.int))) (List.ext_getElem? fun u => ?_)
                unfold linF
                by_cases hu : u < z + 1
                · rw [List.getElem?_map, List.getElem?_range hu]
                  by_cases uz : u = z
                  · subst uz
                    rw [List.getElem?_set_self (by simp)]
                    show some _ = some _
                    rw [tk]; dsimp only
                    rw [gE_snoc, if_neg c, if_pos ⟨c2, rfl, rfl⟩]
                  · rw [List.getElem?_set_ne (Ne.symm uz), List.getElem?_map, List.getElem?_range hu]
                    show some _ = some _
                    rw [tk]; dsimp only
                    rw [gE_snoc, if_neg c, if_neg fun y => uz y.2.2, Int.add_zero]
                · rw [List.getElem?_eq_none (by simp; omega), List.getElem?_eq_none (by simp; omega)]
            · rw [decide_eq_false c2, if_neg (by decide)]
              rw [if_neg (by decide)]
              exact ⟨sj, p, _, _, _, rfl, np, same' fun q => c2 q.1⟩
        · rintro σ Hj ⟨sj, p, y10, y11, y12, rfl, np, hp⟩
          rw [List.length_map, k2, List.take_length] at hp
          refine ⟨_, rfl, .inl ⟨rfl, _, SqL.of (sj _ _ hD)⟩, _, rfl, D, _, _, rfl, rfl, sj _ _ hD, by rw [List.length_map, lds, sizeLine_eq]; have := B.n8; omega, ?_⟩
          have pD : p ≠ D := fun w => by rw [w, hD] at np; cases np
          refine ⟨fun c o e => by rw [upd_ne (fun w => by rw [w, nD] at e; cases e)]; exact sj _ _ (sb _ _ e), ds ++ [p], _, _, _, _, _, rfl, by rw [upd_same, List.map_append]; rfl, by rw [List.length_append, lds]; rfl, fun j y hy => ?_⟩
          rcases snoc_at hy with ⟨c, hy⟩ | ⟨c, rfl⟩
          · obtain ⟨w1, w2⟩ := hds j y hy
            exact ⟨w1, by rw [upd_ne w1]; exact sj _ _ w2⟩
          · refine ⟨pD, ?_⟩
            rw [upd_ne pD, hp, c, lds]
            unfold linF
            dsimp only
            rw [es0]
      · rintro σ Hi ⟨sb, ds, y8, y9, y10, y11, y12, rfl, hD, lds, hds⟩
        rw [List.length_map, h2] at lds
        refine ⟨_, rfl, _, rfl, _, rfl, _, _, rfl, rfl, wide_mul bS (nat_up B.bW (show 64 ≤ 7000 by decide)) (by decide) (by decide) (by decide), ?_⟩
        refine ⟨sa.trans sb, D, _, _, _, _, _, _, _, by rw [Int.pow_succ, ← Int.mul_assoc]; rfl, ⟨⟨ds, hD, lds, fun i q g => ?_⟩⟩⟩
        rw [(hds i q g).2, dr]
        unfold linF
        refine congrArg (fun l => some (HO.lst (l.map V.int))) (List.map_congr_left fun j _ => ?_)
        show Rg.gE wl d (s * W ^ t) G z (Rf R i) j = Rg.gE wl d (s * W ^ (digs.drop (digs.length - t)).length) (Rg.gB wl (Rf R) W z s F (digs.drop (digs.length - t))) z (Rf R i) j
        rw [dl, hG]
    · rintro σ Ho ⟨sa, l, y6, y7, y8, y9, y10, y11, y12, rfl, hl⟩
      rw [ld, Nat.sub_self, List.drop_zero] at hl
      refine ⟨_, rfl, _, rfl, by show 2 ≤ sizeLine; rw [sizeLine_eq]; decide, fun q nq => ?_⟩
      rw [ld]
      exact k q l _ (sa.trans (same_upd nq)) upd_same (hl.same (same_upd nq))
end
end My

namespace My
open PySem PySem.Spec PyProof.Rows L2
/-! ### long division, as numbers -/
def rs (b d n : Int) : Nat → Int
  | 0 => n
  | i + 1 => rs b d n i * b % d
def dg (b d n : Int) (i : Nat) : Int := rs b d n i * b / d
def dl (b d n : Int) (m : Nat) : List Int := (List.range m).map (dg b d n)
theorem dl_succ (b d n : Int) (m : Nat) : dl b d n (m + 1) = dl b d n m ++ [dg b d n m] := by
  unfold dl; rw [List.range_succ, List.map_append]; rfl
theorem dl_len (b d n : Int) (m : Nat) : (dl b d n m).length = m := by unfold dl; rw [List.length_map, List.length_range]
structure Dv (b d n : Int) (m k : Nat) : Prop where
  lt : k < m
  back : rs b d n m = rs b d n k
  inj : ∀ i j, i < j → j < m → rs b d n i ≠ rs b d n j
theorem Dv.uniq {b d n : Int} {m k m' k' : Nat} (h : Dv b d n m k) (h' : Dv b d n m' k') : m = m' ∧ k = k' := by
  have e : m = m' := by
    rcases Nat.lt_trichotomy m m' with q | q | q
    · exact absurd h.back.symm (h'.inj k m h.lt q)
    · exact q
    · exact absurd h'.back.symm (h.inj k' m' h'.lt q)
  subst e
  refine ⟨rfl, ?_⟩
  have z : rs b d n k = rs b d n k' := h.back.symm.trans h'.back
  rcases Nat.lt_trichotomy k k' with q | q | q
  · exact absurd z (h.inj k k' q h'.lt)
  · exact q
  · exact absurd z.symm (h.inj k' k q h.lt)
def Soon (b d n : Int) : Prop := ∃ u v, u < v ∧ v ≤ 1000 ∧ rs b d n u = rs b d n v
theorem soon_le {b d n : Int} {i : Nat} (h : Soon b d n) (inj : ∀ x y, x < y → y < i → rs b d n x ≠ rs b d n y) : i ≤ 1000 := by
  obtain ⟨u, v, h1, h2, h3⟩ := h
  rcases Nat.lt_or_ge v i with q | q
  · exact absurd h3 (inj u v h1 q)
  · omega
theorem rs_rng {b d n : Int} (d0 : 0 < d) (n0 : 0 ≤ n) (nd : n < d) : ∀ i, 0 ≤ rs b d n i ∧ rs b d n i < d
  | 0 => ⟨n0, nd⟩
  | i + 1 => ⟨Int.emod_nonneg _ (by omega), Int.emod_lt_of_pos _ d0⟩
theorem dg_rng {b d n : Int} (d0 : 0 < d) (n0 : 0 ≤ n) (nd : n < d) (b0 : 0 < b) (i : Nat) : 0 ≤ dg b d n i ∧ dg b d n i < b := by
  obtain ⟨h1, h2⟩ := rs_rng (b := b) d0 n0 nd i
  refine ⟨Int.ediv_nonneg (Int.mul_nonneg h1 (by omega)) (by omega), Int.ediv_lt_of_lt_mul d0 ?_⟩
  rw [Int.mul_comm]
  exact Int.mul_lt_mul_of_pos_left h2 b0
theorem dl_rng {b d n : Int} (d0 : 0 < d) (n0 : 0 ≤ n) (nd : n < d) (b0 : 0 < b) (m : Nat) : ∀ x ∈ dl b d n m, 0 ≤ x ∧ x < b := by
  intro x hx
  unfold dl at hx
  obtain ⟨i, _, rfl⟩ := List.mem_map.mp hx
  exact dg_rng d0 n0 nd b0 i
/-! ### numbers that digits write -/
theorem snoc_ind {α : Type} {P : List α → Prop} (h0 : P []) (h1 : ∀ l x, P l → P (l ++ [x])) (l : List α) : P l := by
  have key : ∀ r : List α, P r.reverse := by
    intro r
    induction r with
    | nil => exact h0
    | cons x r ih => rw [List.reverse_cons]; exact h1 _ _ ih
  have := key l.reverse
  rwa [List.reverse_reverse] at this
def nb (b : Int) (l : List Int) : Int := l.foldl (fun a x => a * b + x) 0
theorem nb_snoc (b : Int) (l : List Int) (x : Int) : nb b (l ++ [x]) = nb b l * b + x := by unfold nb; rw [List.foldl_append]; rfl
theorem nb_app (b : Int) (l : List Int) : ∀ r : List Int, nb b (l ++ r) = nb b l * b ^ r.length + nb b r := by
  refine snoc_ind ?_ fun r x ih => ?_
  · simp [nb]
  · rw [← List.append_assoc, nb_snoc, ih, nb_snoc, List.length_append, List.length_singleton, Int.pow_succ]
    rw [Int.add_mul, Int.mul_assoc, Int.add_assoc]
theorem nb_rng {b : Int} (b0 : 0 < b) : ∀ l : List Int, (∀ x ∈ l, 0 ≤ x ∧ x < b) → 0 ≤ nb b l ∧ nb b l < b ^ l.length := by
  refine snoc_ind ?_ fun r x ih => ?_
  · intro _; exact ⟨by simp [nb], by simp [nb]⟩
  · intro h
    obtain ⟨i0, i1⟩ := ih fun y hy => h y (List.mem_append_left _ hy)
    obtain ⟨x0, x1⟩ := h x (by simp)
    rw [nb_snoc, List.length_append, List.length_singleton, Int.pow_succ]
    refine ⟨Int.add_nonneg (Int.mul_nonneg i0 (by omega)) x0, ?_⟩
    have : (nb b r + 1) * b ≤ b ^ r.length * b := Int.mul_le_mul_of_nonneg_right (by omega) (by omega)
    rw [Int.add_mul] at this
    omega
/-- what the first m digits tell -/
theorem div_inv (b d n : Int) : ∀ m, n * b ^ m = d * nb b (dl b d n m) + rs b d n m
  | 0 => by simp [dl, nb, rs]
  | m + 1 => by
    have ih := div_inv b d n m
    rw [dl_succ, nb_snoc, Int.pow_succ]
    have e : d * (rs b d n m * b / d) + rs b d n m * b % d = rs b d n m * b := Int.mul_ediv_add_emod _ _
    show n * (b ^ m * b) = d * (nb b (dl b d n m) * b + rs b d n m * b / d) + rs b d n m * b % d
    rw [Int.mul_add, Int.add_assoc, e, ← Int.mul_assoc, ih, Int.add_mul, Int.mul_assoc]
theorem pow_pos' {b : Int} (h : 0 < b) : ∀ k : Nat, 0 < b ^ k
  | 0 => by simp
  | k + 1 => by rw [Int.pow_succ]; exact Int.mul_pos (pow_pos' h k) h
/-- top and bottom of what stem and ring tell -/
def tp (b : Int) (S R : List Int) : Int := nb b S * (b ^ R.length - 1) + nb b R
def bt (b : Int) (S R : List Int) : Int := b ^ S.length * (b ^ R.length - 1)
theorem dv_eq {b d n : Int} {m k : Nat} (h : Dv b d n m k) : n * bt b ((dl b d n m).take k) ((dl b d n m).drop k) = d * tp b ((dl b d n m).take k) ((dl b d n m).drop k) := by
  have e : (dl b d n m).take k = dl b d n k := by
    unfold dl
    rw [← List.map_take, List.take_range, Nat.min_eq_left (Nat.le_of_lt h.lt)]
  have l1 : ((dl b d n m).drop k).length = m - k := by rw [List.length_drop, dl_len]
  have sp : nb b (dl b d n m) = nb b (dl b d n k) * b ^ (m - k) + nb b ((dl b d n m).drop k) := by
    have := nb_app b ((dl b d n m).take k) ((dl b d n m).drop k)
    rw [List.take_append_drop, e, l1] at this
    exact this
  have h1 := div_inv b d n m
  have h2 := div_inv b d n k
  rw [h.back, sp] at h1
  have pw : b ^ m = b ^ k * b ^ (m - k) := by
    rw [← Int.pow_add]; congr 1; have := h.lt; omega
  unfold bt tp
  rw [e, l1, dl_len]
  rw [pw] at h1
  have h3 : n * (b ^ k * (b ^ (m - k) - 1)) = n * (b ^ k * b ^ (m - k)) - n * b ^ k := by
    rw [Int.mul_sub, Int.mul_sub, Int.mul_one]
  rw [h3, h1, h2]
  rw [Int.mul_add, Int.mul_add, Int.mul_sub, Int.mul_sub, Int.mul_one]
  omega
end My

namespace My
open PySem PySem.Spec PyProof.Rows L2
/-! ### how many digits come ahead of the ring -/
theorem rs_mod {b d n : Int} (n0 : 0 ≤ n) (nd : n < d) : ∀ i, rs b d n i = n * b ^ i % d
  | 0 => by rw [Int.pow_zero, Int.mul_one]; exact (Int.emod_eq_of_lt n0 nd).symm
  | i + 1 => by
    show rs b d n i * b % d = _
    rw [rs_mod n0 nd i, Int.pow_succ, ← Int.mul_assoc, Int.mul_emod (n * b ^ i % d) b d, Int.emod_emod, ← Int.mul_emod]
theorem rs_add {b d n : Int} {u v : Nat} (h : rs b d n u = rs b d n v) : ∀ k, rs b d n (u + k) = rs b d n (v + k)
  | 0 => h
  | k + 1 => by show rs b d n (u + k) * b % d = rs b d n (v + k) * b % d; rw [rs_add h k]
theorem rs_iff {B D N : Nat} (b0 : 0 < B) (nd : N < D) (g : Nat.gcd N D = 1) (i p : Nat) : rs (B : Int) D N i = rs (B : Int) D N (i + p) ↔ D ∣ B ^ i * (B ^ p - 1) := by
  rw [rs_mod (Int.natCast_nonneg _) (by omega), rs_mod (Int.natCast_nonneg _) (by omega), eq_comm, Int.emod_eq_emod_iff_emod_sub_eq_zero, ← Int.dvd_iff_emod_eq_zero]
  have h1 : 1 ≤ B ^ p := Nat.pow_pos b0
  have e : (N : Int) * (B : Int) ^ (i + p) - (N : Int) * (B : Int) ^ i = ((N * (B ^ i * (B ^ p - 1)) : Nat) : Int) := by
    rw [Int.natCast_mul, Int.natCast_mul, Int.natCast_sub h1, Int.natCast_pow, Int.natCast_pow, Int.pow_add, Int.mul_sub, Int.mul_sub, Int.natCast_one, Int.mul_one]
  rw [e, Int.natCast_dvd_natCast]
  constructor
  · exact fun h => Nat.Coprime.dvd_of_dvd_mul_left (show Nat.gcd D N = 1 by rw [Nat.gcd_comm]; exact g) h
  · exact fun h => Nat.dvd_trans h (Nat.dvd_mul_left _ _)
/-- what is left of D behind i steps -/
def StemAt (B D i L : Nat) : Prop := ∃ G w, D = G * L ∧ B ^ i = G * w ∧ Nat.gcd L w = 1 ∧ 0 < L
theorem StemAt.start {B D : Nat} (d0 : 0 < D) : StemAt B D 0 D := ⟨1, 1, by simp, by simp, by simp, d0⟩
theorem StemAt.step {B D i L : Nat} (h : StemAt B D i L) : StemAt B D (i + 1) (L / Nat.gcd L B) := by
  obtain ⟨G, w, e1, e2, e3, l0⟩ := h
  obtain ⟨c, hc⟩ : ∃ c, c = Nat.gcd L B := ⟨_, rfl⟩
  rw [← hc]
  have c0 : 0 < c := by rw [hc]; exact Nat.gcd_pos_of_pos_left _ l0
  obtain ⟨x, hx⟩ : c ∣ L := by rw [hc]; exact Nat.gcd_dvd_left _ _
  obtain ⟨y, hy⟩ : c ∣ B := by rw [hc]; exact Nat.gcd_dvd_right _ _
  have ex : L / c = x := by rw [hx]; exact Nat.mul_div_cancel_left _ c0
  have x0 : 0 < x := Nat.pos_of_ne_zero fun z => by rw [z] at hx; omega
  have gxy : Nat.gcd x y = 1 := by
    have : c * Nat.gcd x y = c := by rw [← Nat.gcd_mul_left, ← hx, ← hy]; exact hc.symm
    exact Nat.eq_of_mul_eq_mul_left c0 (by rw [this, Nat.mul_one])
  have gxw : Nat.gcd x w = 1 := Nat.Coprime.coprime_dvd_left ⟨c, by rw [Nat.mul_comm]; exact hx⟩ e3
  refine ⟨G * c, w * y, ?_, ?_, ?_, by rw [ex]; exact x0⟩
  · rw [ex, e1, hx, Nat.mul_assoc]
  · rw [Nat.pow_succ, e2, hy]; simp only [Nat.mul_left_comm, Nat.mul_comm]
  · rw [ex]; exact Nat.Coprime.mul_right gxw gxy
theorem StemAt.none {B D i L p : Nat} (h : StemAt B D i L) (g : 1 < Nat.gcd L B) (p0 : 0 < p) (b0 : 0 < B) : ¬ D ∣ B ^ i * (B ^ p - 1) := by
  obtain ⟨G, w, e1, e2, e3, l0⟩ := h
  intro hd
  have g0 : 0 < G := Nat.pos_of_ne_zero fun z => by rw [z, Nat.zero_mul] at e2; exact absurd e2 (Nat.pos_iff_ne_zero.mp (Nat.pow_pos b0))
  rw [e1, e2, Nat.mul_assoc] at hd
  have h1 : L ∣ w * (B ^ p - 1) := Nat.dvd_of_mul_dvd_mul_left g0 hd
  have h2 : L ∣ B ^ p - 1 := Nat.Coprime.dvd_of_dvd_mul_left e3 h1
  have h3 : Nat.gcd L B ∣ B ^ p - 1 := Nat.dvd_trans (Nat.gcd_dvd_left _ _) h2
  have h4 : Nat.gcd L B ∣ B ^ p := Nat.dvd_trans (Nat.gcd_dvd_right L B) (by have := Nat.pow_dvd_pow B (show 1 ≤ p from p0); rwa [Nat.pow_one] at this)
  have h5 : 1 ≤ B ^ p := Nat.pow_pos b0
  have h6 : Nat.gcd L B ∣ 1 := by
    have : B ^ p - (B ^ p - 1) = 1 := by omega
    rw [← this]
    exact Nat.dvd_sub h4 h3
  have := Nat.le_of_dvd (by decide) h6
  omega
theorem StemAt.ends {B D s L u p : Nat} (h : StemAt B D s L) (g : Nat.gcd L B = 1) (hd : D ∣ B ^ u * (B ^ p - 1)) : D ∣ B ^ s * (B ^ p - 1) := by
  obtain ⟨G, w, e1, e2, e3, l0⟩ := h
  have h1 : L ∣ B ^ u * (B ^ p - 1) := Nat.dvd_trans ⟨G, by rw [Nat.mul_comm]; exact e1⟩ hd
  have h2 : L ∣ B ^ p - 1 := Nat.Coprime.dvd_of_dvd_mul_left (Nat.Coprime.pow_right u g) h1
  rw [e1, e2, Nat.mul_assoc]
  exact Nat.mul_dvd_mul_left G (Nat.dvd_trans h2 (Nat.dvd_mul_left _ _))
/-- the count of the digits ahead, as the program counts it -/
def StemEnd (B D s : Nat) : Prop := (∀ i, i < s → ∃ L, StemAt B D i L ∧ 1 < Nat.gcd L B) ∧ ∃ L, StemAt B D s L ∧ Nat.gcd L B = 1
structure Stem (b d n : Int) (s : Nat) : Prop where
  ahead : ∀ i j, i < s → i < j → rs b d n i ≠ rs b d n j
  round : ∀ u v, u < v → rs b d n u = rs b d n v → rs b d n s = rs b d n (s + (v - u))
theorem stem_of {B D N s : Nat} (b0 : 0 < B) (nd : N < D) (g : Nat.gcd N D = 1) (h : StemEnd B D s) : Stem (B : Int) D N s := by
  obtain ⟨h1, L, h2, h3⟩ := h
  constructor
  · intro i j hi hij e
    obtain ⟨L', a, c⟩ := h1 i hi
    obtain ⟨p, rfl⟩ : ∃ p, j = i + p := ⟨j - i, by omega⟩
    exact a.none c (by omega) b0 ((rs_iff b0 nd g i p).mp e)
  · intro u v huv e
    obtain ⟨p, rfl⟩ : ∃ p, v = u + p := ⟨v - u, by omega⟩
    rw [show u + p - u = p by omega]
    exact (rs_iff b0 nd g s p).mpr (h2.ends h3 ((rs_iff b0 nd g u p).mp e))
theorem Stem.soon {b d n : Int} {s : Nat} (h : Stem b d n s) (q : Soon b d n) : ∃ p, 0 < p ∧ s + p ≤ 1000 ∧ rs b d n (s + p) = rs b d n s := by
  obtain ⟨u, v, h1, h2, h3⟩ := q
  have hu : s ≤ u := by
    rcases Nat.lt_or_ge u s with z | z
    · exact absurd h3 (h.ahead u v z h1)
    · exact z
  exact ⟨v - u, by omega, by omega, (h.round u v h1 h3).symm⟩
theorem Stem.dv {b d n : Int} {s j : Nat} (h : Stem b d n s) (j0 : 0 < j) (hb : rs b d n (s + j) = rs b d n s) (no : ∀ i, 0 < i → i < j → rs b d n (s + i) ≠ rs b d n s) : Dv b d n (s + j) s := by
  refine ⟨by omega, hb, fun x y hxy hy => ?_⟩
  rcases Nat.lt_or_ge x s with z | z
  · exact h.ahead x y z hxy
  · intro e
    obtain ⟨x', rfl⟩ : ∃ k, x = s + k := ⟨x - s, by omega⟩
    obtain ⟨y', rfl⟩ : ∃ k, y = s + k := ⟨y - s, by omega⟩
    have e2 := rs_add e (j - y')
    rw [show s + y' + (j - y') = s + j by omega, hb] at e2
    exact no (x' + (j - y')) (by omega) (by omega) (by rw [← Nat.add_assoc]; exact e2)
end My

namespace My
open PySem PySem.Spec PyProof.Rows L2
abbrev sDivided : Stmt := topS 4
abbrev sStemSize : Stmt := topS 5
abbrev sNumberOf : Stmt := topS 12
abbrev sInLowest : Stmt := topS 3
/-! ### lowest terms -/
def gN (a b : Int) : Int := ((Nat.gcd b.natAbs a.natAbs : Nat) : Int)
def spRed : Sp := fun vs H Q _ => ∃ a b : Int, vs = [.int a, .int b] ∧ 0 ≤ a ∧ 0 < b ∧ b.natAbs < 2 ^ 8000 ∧ ∀ q, H q = none → Q (.ref q) (upd H q (.tup [.int (a / gN a b), .int (b / gN a b)]))
theorem gcd_turn (x y : Nat) : Nat.gcd y (x % y) = Nat.gcd x y := by
  rw [Nat.gcd_comm x y, Nat.gcd_rec y x, Nat.gcd_comm]
section
variable {P : Program} {w : World} {K : PySem.W.Frag} {mg : Str → Option Value} {base : Heap}
end
abbrev sLNumber : Stmt := topS 27
def iTup (l : List Int) : PyData := .tuple (l.map .int)
structure Tx (mg : Str → Option Value) : Prop where
  len : mg "len" = none
  divmod : mg "divmod" = none
  tuple : mg "tuple" = none
theorem dq_mk {K : PySem.W.Frag} {G : Hp} {a : Addr} {l : List Int} (h : G a = some (.tup (l.map V.int))) : Dq K G (.ref a) (iTup l) := .tup h (dq_ints K G l)
theorem cut_take (l : List Int) (k : Nat) : cutV (l.map V.int) none (some (k : Int)) = (l.take k).map V.int := by
  unfold cutV
  have a1 : HT.sIx (l.map V.int).length 0 none = 0 := rfl
  rw [sIx_nat, a1, List.drop_zero, Nat.sub_zero, List.map_take, ← List.take_take, List.take_length]
theorem cut_drop (l : List Int) (k : Nat) : cutV (l.map V.int) (some (k : Int)) none = (l.drop k).map V.int := by
  unfold cutV
  have a1 : HT.sIx (l.map V.int).length (l.map V.int).length none = (l.map V.int).length := rfl
  rw [sIx_nat, a1, List.map_drop]
  rcases Nat.le_total k (l.map V.int).length with h | h
  · rw [Nat.min_eq_left h, List.take_of_length_le (by rw [List.length_drop]; exact Nat.le_refl _)]
  · rw [Nat.min_eq_right h, Nat.sub_self, List.take_zero, List.drop_eq_nil_of_le h]
/-- what a division is asked of -/
structure Asked (b d n : Int) : Prop where
  b0 : 2 ≤ b
  b1 : b ≤ 10
  n0 : 0 ≤ n
  nd : n < d
  dz : d.natAbs < 2 ^ 8000
  soon : Soon b d n
  gc : Nat.gcd n.natAbs d.natAbs = 1
def spDivided (K : PySem.W.Frag) : Sp := fun vs H Q _ => ∃ (b n d : Int) (G : Hp), vs = [.int b, .int n, .int d] ∧ Asked b d n ∧ Same G H ∧
  ∀ m k, Dv b d n m k → ∀ (v : V) (G' H' : Hp), Nw G H G' H' → Dq K G' v (.tuple [iTup ((dl b d n m).take k), iTup ((dl b d n m).drop k)]) → Q v H'
def spLDivided (K : PySem.W.Frag) : Sp := fun vs H Q _ => ∃ (b n d : Int) (G : Hp), vs = [.int b, .int n, .int d] ∧ 0 < d ∧ (n ≠ d → Asked b d n) ∧ Same G H ∧
  (n = d → ∀ (v : V) (G' H' : Hp), Nw G H G' H' → Dq K G' v (.tuple [iTup [], iTup [b - 1]]) → Q v H') ∧
  (n ≠ d → ∀ m k, Dv b d n m k → ∀ (v : V) (G' H' : Hp), Nw G H G' H' → Dq K G' v (.tuple [iTup ((dl b d n m).take k), iTup ((dl b d n m).drop k)]) → Q v H')
/-- digits of a base -/
def Digs (b : Int) (l : List Int) : Prop := ∀ x ∈ l, 0 ≤ x ∧ x < b
def spNumberOf (K : PySem.W.Frag) : Sp := fun vs H Q _ => ∃ (b : Int) (v : V) (l : List Int) (G : Hp), vs = [.int b, v] ∧ 2 ≤ b ∧ b ≤ 10 ∧ Same G H ∧ Dq K G v (iTup l) ∧ ∀ (a : Addr) (G' H' : Hp), Nw G H G' H' → G' a = some (.tup [.int (nb b l), .int (b ^ l.length)]) → Q (.ref a) H'
def spLNumber (K : PySem.W.Frag) : Sp := fun vs H Q _ => ∃ (b : Int) (v : V) (l : List Int) (G : Hp), vs = [.int b, v] ∧ 2 ≤ b ∧ b ≤ 10 ∧ Same G H ∧ Dq K G v (iTup l) ∧ Q (.int (nb b l)) H
def spInLowest : Sp := fun vs H Q _ => ∃ a b : Int, vs = [.int a, .int b] ∧ 0 < b ∧ b.natAbs < 2 ^ 8000 ∧ ∀ q, H q = none → Q (.ref q) (upd H q (.tup [.int (a / gN a b), .int (b / gN a b)]))
theorem small1000000 {n : Nat} (h : n ≤ 1000000) : n < sizeLine := by rw [sizeLine_eq]; omega
theorem same_put {H H2 : Hp} (s : Same H H2) {p : Addr} (n : H p = none) {o : HO} : Same H (upd H2 p o) := fun b u h => by rw [upd_ne (ne_of_none h n)]; exact s b u h
theorem dq_tup {K : PySem.W.Frag} {G : Hp} {v : V} {l : List Int} (h : Dq K G v (iTup l)) : ∃ a, v = .ref a ∧ G a = some (.tup (l.map V.int)) := by
  cases h with
  | tup hs ha =>
    rename_i a xs
    refine ⟨a, rfl, ?_⟩
    have key : ∀ (xs : List V) (l : List Int), DqAll K G xs (l.map .int) → xs = l.map V.int := by
      intro xs l
      induction l generalizing xs with
      | nil => intro h; cases h; rfl
      | cons x r ih => intro h; cases h with | cons h1 h2 => cases h1; rw [ih _ h2]; rfl
    rw [← key xs l ha]; exact hs
theorem Nw.pre {G H H1 G' H' : Hp} (e : Same H H1) (g : Nw G H1 G' H') : Nw G H G' H' := ⟨g.gg, g.gh, e.trans g.hh, fun c hc => g.old c (keep_ne e hc)⟩
def spStem : Sp := fun vs H Q _ => ∃ b d : Int, vs = [.int b, .int d] ∧ 2 ≤ b ∧ b ≤ 10 ∧ 0 < d ∧ d.natAbs < 2 ^ 8000 ∧ ∀ s : Nat, StemEnd b.toNat d.toNat s → Q (.int (s : Int)) H
theorem asked_stem {b d n : Int} {s : Nat} (a : Asked b d n) (h : StemEnd b.toNat d.toNat s) : Stem b d n s := by
  obtain ⟨b0, b1, n0, nd, dz, so, gc⟩ := a
  obtain ⟨B, rfl⟩ : ∃ B : Nat, b = (B : Int) := ⟨b.toNat, by omega⟩
  obtain ⟨D, rfl⟩ : ∃ D : Nat, d = (D : Int) := ⟨d.toNat, by omega⟩
  obtain ⟨N, rfl⟩ : ∃ N : Nat, n = (N : Int) := ⟨n.toNat, by omega⟩
  rw [Int.toNat_natCast, Int.toNat_natCast] at h
  exact stem_of (by omega) (by omega) gc h
theorem dl_take {b d n : Int} (s j : Nat) : (dl b d n (s + j)).take s = dl b d n s := by
  induction j with
  | zero => rw [Nat.add_zero]; exact List.take_of_length_le (by rw [dl_len]; exact Nat.le_refl _)
  | succ j ih => rw [← Nat.add_assoc, dl_succ, List.take_append_of_le_length (by rw [dl_len]; omega)]; exact ih
theorem dl_drop_succ {b d n : Int} (s j : Nat) : (dl b d n (s + (j + 1))).drop s = (dl b d n (s + j)).drop s ++ [dg b d n (s + j)] := by
  rw [← Nat.add_assoc, dl_succ, List.drop_append_of_le_length (by rw [dl_len]; omega)]
section
variable {P : Program} {w : World} {K : PySem.W.Frag} {mg : Str → Option Value} {base : Heap}
theorem scStemSize : FnScope ["base", "bottom", "size", "left", "common"] ["base", "bottom"] (defScope sStemSize) := ⟨rfl, rfl, rfl, by decide +kernel, rfl, by decide +kernel, by decide +kernel⟩
theorem ok_stemSize {f : Addr} {fd : FuncData} (F : Fun K "_stem_size" "_stem_size" sStemSize f fd) (gG : mg "gcd" = some (.builtin "math.gcd")) : FnOk P w K mg base CX0 1 f fd ["base", "bottom"] spStem := by
  refine F.ok scStemSize (fun vs H Q E h => ?_) (fun cdv A outer s H vs Q E hr h => ?_)
  · obtain ⟨b, d, rfl, _⟩ := h
    rfl
  · obtain ⟨b, d, rfl, b0, b1, d0, dz, k⟩ := h
    obtain ⟨B, rfl⟩ : ∃ B : Nat, b = (B : Int) := ⟨b.toNat, by omega⟩
    obtain ⟨D, rfl⟩ : ∃ D : Nat, d = (D : Int) := ⟨d.toNat, by omega⟩
    rw [Int.toNat_natCast, Int.toNat_natCast] at k
    refine ⟨_, (pss_cons (ps_set (i := 2) scStemSize.nd rfl (Or.inl rfl) pe_int)
      (pss_cons (ps_set (i := 3) scStemSize.nd rfl (Or.inl rfl) (pv 1))
      (pss_cons (ps_set (i := 4) scStemSize.nd rfl (Or.inl rfl) (pe_callBfun cr_gcd (by rfl) gG (pa_cons (pv 3) (pa_cons (pv 0) pa_nil))))
      (pss_cons (ps_while PassesOwn.never (pt_cmpR op_gt (pv 4) pe_int (nomark _)) (pss_cons (ps_set (i := 3) scStemSize.nd rfl (Or.inl rfl) (pe_op op_fdivW (pv 3) (pv 4)))
        (pss_cons (ps_aug (i := 2) scStemSize.nd rfl (Or.inl rfl) pe_int ip_add)
        (pss_one (ps_set (i := 4) scStemSize.nd rfl (Or.inl rfl) (pe_callBfun cr_gcd (by rfl) gG (pa_cons (pv 3) (pa_cons (pv 0) pa_nil))))))))
      (pss_one (ps_ret (pv 2))))))), ?_⟩
    refine ⟨_, rfl, _, rfl, _, rfl, _, _, rfl, ?_⟩
    refine while_by (fun σ H2 => ∃ s L : Nat, σ = [some (.int (B : Int)), some (.int (D : Int)), some (.int (s : Int)), some (.int (L : Int)), some (.int ((Nat.gcd L B : Nat) : Int))] ∧ H2 = H ∧ StemAt B D s L ∧ L ≤ D ∧ ∀ i, i < s → ∃ L', StemAt B D i L' ∧ 1 < Nat.gcd L' B) (fun σ _ => match σ with | [_, _, _, some (.int y), _] => y.natAbs | _ => 0) ?_ ?_ ?_
    · exact ⟨0, D, rfl, rfl, StemAt.start (by omega), Nat.le_refl _, fun _ z => nomatch z⟩
    · rintro σ H2 ⟨s, L, rfl, rfl, hs, hL, hb⟩
      have l0 : 0 < L := by obtain ⟨_, _, _, _, _, z⟩ := hs; exact z
      refine ⟨_, rfl, _, _, rfl, rfl, _, rfl, ?_⟩
      by_cases hg : 1 < Nat.gcd L B
      · refine ifT (decide_eq_true (by omega)) ?_
        have gL : Nat.gcd L B ≤ L := Nat.le_of_dvd l0 (Nat.gcd_dvd_left _ _)
        have wd : CDivW (L : Int) ((Nat.gcd L B : Nat) : Int) := wide_div (b := 8000) (by omega) (Nat.lt_of_le_of_lt (show (((Nat.gcd L B : Nat) : Int)).natAbs ≤ (D : Int).natAbs by omega) dz) (by decide) (by decide)
        refine ⟨_, rfl, _, rfl, _, _, rfl, rfl, wd, ?_⟩
        refine ⟨_, rfl, _, _, rfl, rfl, ?_⟩
        refine ⟨_, rfl, _, rfl, _, _, rfl, ?_⟩
        have el : L / Nat.gcd L B < L := Nat.div_lt_self l0 hg
        refine ⟨⟨s + 1, L / Nat.gcd L B, ?_, rfl, hs.step, by omega, fun i hi => ?_⟩, ?_⟩
        · rw [Int.natCast_add, Int.natCast_ediv]; rfl
        · rcases Nat.lt_or_ge i s with q | q
          · exact hb i q
          · obtain rfl : i = s := by omega
            exact ⟨L, hs, hg⟩
        · show ((L : Int) / ((Nat.gcd L B : Nat) : Int)).natAbs < (L : Int).natAbs
          rw [← Int.natCast_ediv, Int.natAbs_natCast, Int.natAbs_natCast]; exact el
      · refine ifF (decide_eq_false (by omega)) ?_
        have g0 : 0 < Nat.gcd L B := Nat.gcd_pos_of_pos_left _ l0
        exact ⟨_, rfl, k s ⟨hb, L, hs, by omega⟩⟩
    · intro σ H2 Q1 Q2 m h
      obtain ⟨v, e, i, j, e1, e2, u, e3, h2⟩ := h
      exact ⟨v, e, i, j, e1, e2, u, e3, m _ _ h2⟩
theorem scDivided : FnScope ["base", "top", "bottom", "stem", "rest", "_", "digit", "start", "ring"] ["base", "top", "bottom"] (defScope sDivided) := ⟨rfl, rfl, rfl, by decide +kernel, rfl, by decide +kernel, by decide +kernel⟩
theorem ok_divided {f fS : Addr} {fd fdS : FuncData} (F : Fun K "_divided" "_divided" sDivided f fd) (T : Tx mg) (mr : mg "range" = none)
    (FS : Fun K "_stem_size" "_stem_size" sStemSize fS fdS) (bS : Binds K fdS ["base", "bottom"] []) (gS : mg "_stem_size" = some (.ref fS)) (gG : mg "gcd" = some (.builtin "math.gcd")) : FnOk P w K mg base CX0 2 f fd ["base", "top", "bottom"] (spDivided K) := by
  have GS : FnOk P w K mg base CX0 1 fS fdS ["base", "bottom"] spStem := ok_stemSize FS gG
  refine F.ok scDivided (fun vs H Q E h => ?_) (fun cdv A outer s H vs Q E hr h => ?_)
  · obtain ⟨b, n, d, G, rfl, _⟩ := h
    rfl
  · obtain ⟨b, n, d, G, rfl, a, e, k⟩ := h
    have hr1 := hr
    refine ⟨_, (pss_cons (ps_set (i := 3) scDivided.nd rfl (Or.inl rfl) (pe_lst pa_nil))
      (pss_cons (ps_set (i := 4) scDivided.nd rfl (Or.inl rfl) (pv 1))
      (pss_cons (ps_for PassesOwn.never rfl (pi_range1 (by rfl) mr (pa_cons (pe_call GS hr1 (by rfl) gS FS.kp bS .nil pass0 (pa_cons (pv 0) (pa_cons (pv 2) pa_nil))) pa_nil)) (pg_name (i := 5) scDivided.nd rfl (Or.inl rfl))
        (pss_cons (ps_asg (pe_callB call_divmodW (by rfl) T.divmod boot_divmod (pa_cons (pe_op op_mul (pv 4) (pv 0)) (pa_cons (pv 2) pa_nil))) (pg_tup (by rfl) (pgs_cons (pg_name (i := 6) scDivided.nd rfl (Or.inl rfl)) (pgs_cons (pg_name (i := 4) scDivided.nd rfl (Or.inl rfl)) pgs_nil))))
        (pss_one (ps_expr (pe_bm PySem.F.plainAttrs_list PySem.F.slot_list_append PySem.F.type_list_append mt_append (pv 3) (pa_cons (pv 6) pa_nil))))))
      (pss_cons (ps_set (i := 7) scDivided.nd rfl (Or.inl rfl) (pv 4))
      (pss_cons (ps_set (i := 8) scDivided.nd rfl (Or.inl rfl) (pe_lst pa_nil))
      (pss_cons (ps_while PassesOwn.never (PW.pt (pw_or (pt_not (pt_truth (pv 8) (by intro _; rfl))) (pw_or1 (pt_cmpR op_ne (pv 4) (pv 7) (nomark _)))))
        (pss_cons (ps_asg (pe_callB call_divmodW (by rfl) T.divmod boot_divmod (pa_cons (pe_op op_mul (pv 4) (pv 0)) (pa_cons (pv 2) pa_nil))) (pg_tup (by rfl) (pgs_cons (pg_name (i := 6) scDivided.nd rfl (Or.inl rfl)) (pgs_cons (pg_name (i := 4) scDivided.nd rfl (Or.inl rfl)) pgs_nil))))
        (pss_one (ps_expr (pe_bm PySem.F.plainAttrs_list PySem.F.slot_list_append PySem.F.type_list_append mt_append (pv 8) (pa_cons (pv 6) pa_nil))))))
      (pss_one (ps_ret (pe_tup (pa_cons (pe_callTy call_tuple_of (by rfl) T.tuple boot_tuple (pa_cons (pv 3) pa_nil)) (pa_cons (pe_callTy call_tuple_of (by rfl) T.tuple boot_tuple (pa_cons (pv 8) pa_nil)) pa_nil))))))))))), ?_⟩
    have d0 : 0 < d := by have := a.n0; have := a.nd; omega
    refine ⟨by decide, fun ld nld => ?_⟩
    refine ⟨_, rfl, _, rfl, _, rfl, b, d, rfl, a.b0, a.b1, d0, a.dz, fun s hs => ?_⟩
    have st := asked_stem a hs
    obtain ⟨p, p0, p1, hp⟩ := st.soon a.soon
    have cdiv : ∀ x, CDivP x d := fun x => ⟨d0, PyProof.noPylong_of_log2 (Nat.lt_of_lt_of_le (PySem.Flt.log2_lt_of (k := 8000) (by decide) a.dz) (by decide))⟩
    have cm : ∀ x, CMul x b := fun x => .inr ⟨by have := a.b0; omega, by have := a.b1; omega⟩
    refine ⟨_, rfl, by omega, by omega, ?_⟩
    rw [Int.toNat_natCast]
    refine for_range (n := s) (fun i σ H2 => ∃ y5 y6 : Option V, σ = [some (.int b), some (.int n), some (.int d), some (.ref ld), some (.int (rs b d n i)), y5, y6, none, none] ∧ H2 ld = some (.lst ((dl b d n i).map V.int)) ∧ Same H H2) ⟨none, none, rfl, upd_same, Same.upd nld⟩ ?_ ?_
    · rintro i σ H2 hi ⟨y5, y6, rfl, hl, sm⟩
      refine ⟨_, rfl, _, rfl, _, _, rfl, rfl, cm _, _, rfl, _, _, rfl, cdiv _, fun q nq => ?_⟩
      refine ⟨q, _, rfl, SqT.of upd_same, rfl, _, _, rfl, _, _, rfl, rfl, ?_⟩
      have ldq : ld ≠ q := ne_of_none hl nq
      refine ⟨_, rfl, .inl ⟨rfl, _, SqL.of (by rw [upd_ne ldq]; exact hl)⟩, _, rfl, ld, _, _, rfl, rfl, (by rw [upd_ne ldq]; exact hl), (by rw [List.length_map, dl_len, sizeLine_eq]; omega), ?_⟩
      refine ⟨_, _, rfl, by rw [upd_same, dl_succ, List.map_append]; rfl, fun c o hc => ?_⟩
      rw [upd_ne (ne_of_none hc nld), upd_ne (ne_of_none hc (sm.free nq))]
      exact sm c o hc
    · rintro σ H2 ⟨y5, y6, rfl, hl, sm⟩
      refine ⟨_, rfl, by decide, fun lr nlr => ?_⟩
      have lne : ld ≠ lr := ne_of_none hl nlr
      have nlr0 : H lr = none := sm.free nlr
      refine while_by (fun σ H3 => ∃ (j : Nat) (y5 y6 : Option V), σ = [some (.int b), some (.int n), some (.int d), some (.ref ld), some (.int (rs b d n (s + j))), y5, y6, some (.int (rs b d n s)), some (.ref lr)] ∧ H3 ld = some (.lst ((dl b d n s).map V.int)) ∧ H3 lr = some (.lst (((dl b d n (s + j)).drop s).map V.int)) ∧ j ≤ p ∧ (∀ i, 0 < i → i < j → rs b d n (s + i) ≠ rs b d n s) ∧ Same H H3) (fun _ H3 => match H3 lr with | some (.lst xs) => p - xs.length | _ => 0) ?_ ?_ ?_
      · refine ⟨0, y5, y6, rfl, by rw [upd_ne lne]; exact hl, ?_, Nat.zero_le _, (fun i h1 h2 => by omega), fun c o hc => ?_⟩
        · rw [upd_same, Nat.add_zero, List.drop_eq_nil_of_le (by rw [dl_len]; exact Nat.le_refl _)]; rfl
        · rw [upd_ne (ne_of_none hc nlr0)]; exact sm c o hc
      · rintro σ H3 ⟨j, y5, y6, rfl, hl3, hr3, hj, no, sm3⟩
        have len3 : ((dl b d n (s + j)).drop s).length = j := by rw [List.length_drop, dl_len]; omega
        have go : j = 0 ∨ (0 < j ∧ rs b d n (s + j) ≠ rs b d n s) → j < p := by
          rintro (z | ⟨z, z2⟩)
          · omega
          · rcases Nat.lt_or_ge j p with q | q
            · exact q
            · obtain rfl : j = p := by omega
              exact absurd hp z2
        refine ⟨_, rfl, _, .inl ⟨_, SqL.of hr3, rfl⟩, ?_⟩
        by_cases j0 : j = 0
        · refine ifT (by subst j0; rw [List.drop_eq_nil_of_le (by rw [dl_len]; omega)]; rfl) ?_
          have jp := go (.inl j0)
          have hz : 0 < j → rs b d n (s + j) ≠ rs b d n s := fun z => by omega
          refine ⟨_, rfl, _, rfl, _, _, rfl, rfl, cm _, _, rfl, _, _, rfl, cdiv _, fun q nq => ?_⟩
          refine ⟨q, _, rfl, SqT.of upd_same, rfl, _, _, rfl, _, _, rfl, rfl, ?_⟩
          have lrq : lr ≠ q := ne_of_none hr3 nq
          have ldq : ld ≠ q := ne_of_none hl3 nq
          refine ⟨_, rfl, .inl ⟨rfl, _, SqL.of (by rw [upd_ne lrq]; exact hr3)⟩, _, rfl, lr, _, _, rfl, rfl, (by rw [upd_ne lrq]; exact hr3), (by rw [List.length_map, len3, sizeLine_eq]; omega), ?_⟩
          refine ⟨⟨j + 1, _, _, rfl, ?_, ?_, by omega, ?_, ?_⟩, ?_⟩
          · rw [upd_ne lne, upd_ne ldq]; exact hl3
          · rw [upd_same, dl_drop_succ, List.map_append]; rfl
          · intro i h1 h2
            rcases Nat.lt_or_ge i j with q2 | q2
            · exact no i h1 q2
            · obtain rfl : i = j := by omega
              exact hz h1
          · intro c o hc
            rw [upd_ne (ne_of_none hc nlr0), upd_ne (ne_of_none hc (sm3.free nq))]
            exact sm3 c o hc
          · show (match (upd (upd H3 q _) lr _) lr with | some (.lst xs) => p - xs.length | _ => 0) < (match H3 lr with | some (.lst xs) => p - xs.length | _ => 0)
            rw [upd_same, hr3]
            show p - (_ ++ [_]).length < p - _
            rw [List.length_append, List.length_map, len3, List.length_singleton]
            omega
        · have ne : ((dl b d n (s + j)).drop s).map V.int ≠ [] := fun z => j0 (by have := congrArg List.length z; rw [List.length_map, len3] at this; exact this)
          refine ifF (by cases hx : ((dl b d n (s + j)).drop s).map V.int with | nil => exact absurd hx ne | cons x r => rfl) ?_
          refine ⟨_, rfl, _, rfl, rfl, _, rfl, ?_⟩
          by_cases hz : rs b d n (s + j) = rs b d n s
          · refine ifF (by rw [hz, decide_eq_true rfl]; rfl) ?_
            rw [← dl_take s j] at hl3
            have g3 : Same G H3 := e.trans sm3
            refine ⟨_, rfl, ld, _, rfl, .inl ⟨SqL.of hl3, fun t1 nt1 => ?_⟩⟩
            have w1 := Nw.mk1 g3 nt1 (.tup (((dl b d n (s + j)).take s).map V.int))
            refine ⟨_, rfl, lr, _, rfl, .inl ⟨SqL.of (w1.hh _ _ hr3), fun t2 nt2 => ?_⟩⟩
            have w2 := Nw.mk1 w1.gh nt2 (.tup (((dl b d n (s + j)).drop s).map V.int))
            refine ⟨(by show 2 ≤ sizeLine; decide), fun q nq => ?_⟩
            have w3 := Nw.mk1 w2.gh nq (.tup [.ref t1, .ref t2])
            exact k (s + j) s (st.dv (by omega) hz no) (.ref q) _ _ (Nw.pre sm3 ((w1.trans w2).trans w3)) (.tup upd_same (.cons (dq_mk (w3.gg _ _ (w2.gg _ _ upd_same))) (.cons (dq_mk (w3.gg _ _ upd_same)) .nil)))
          · refine ifT (by rw [decide_eq_false (fun z => hz (V.int.inj z))]; rfl) ?_
            have jp := go (.inr ⟨by omega, hz⟩)
            have hz := fun _ : 0 < j => hz
            refine ⟨_, rfl, _, rfl, _, _, rfl, rfl, cm _, _, rfl, _, _, rfl, cdiv _, fun q nq => ?_⟩
            refine ⟨q, _, rfl, SqT.of upd_same, rfl, _, _, rfl, _, _, rfl, rfl, ?_⟩
            have lrq : lr ≠ q := ne_of_none hr3 nq
            have ldq : ld ≠ q := ne_of_none hl3 nq
            refine ⟨_, rfl, .inl ⟨rfl, _, SqL.of (by rw [upd_ne lrq]; exact hr3)⟩, _, rfl, lr, _, _, rfl, rfl, (by rw [upd_ne lrq]; exact hr3), (by rw [List.length_map, len3, sizeLine_eq]; omega), ?_⟩
            refine ⟨⟨j + 1, _, _, rfl, ?_, ?_, by omega, ?_, ?_⟩, ?_⟩
            · rw [upd_ne lne, upd_ne ldq]; exact hl3
            · rw [upd_same, dl_drop_succ, List.map_append]; rfl
            · intro i h1 h2
              rcases Nat.lt_or_ge i j with q2 | q2
              · exact no i h1 q2
              · obtain rfl : i = j := by omega
                exact hz h1
            · intro c o hc
              rw [upd_ne (ne_of_none hc nlr0), upd_ne (ne_of_none hc (sm3.free nq))]
              exact sm3 c o hc
            · show (match (upd (upd H3 q _) lr _) lr with | some (.lst xs) => p - xs.length | _ => 0) < (match H3 lr with | some (.lst xs) => p - xs.length | _ => 0)
              rw [upd_same, hr3]
              show p - (_ ++ [_]).length < p - _
              rw [List.length_append, List.length_map, len3, List.length_singleton]
              omega
      · intro σ H3 Q1 Q2 m h
        obtain ⟨v, e1, kk, tv, h⟩ := h
        refine ⟨v, e1, kk, tv, ?_⟩
        dsimp only at h ⊢
        by_cases hk : (!kk) = true
        · rw [if_pos hk] at h ⊢
          exact m _ _ h
        · rw [if_neg hk] at h ⊢
          obtain ⟨v2, e2, v3, e3, sc, u, e4, h⟩ := h
          exact ⟨v2, e2, v3, e3, sc, u, e4, m _ _ h⟩
end
end My

namespace My
open PySem PySem.Spec PyProof.Rows L2
theorem dp_ints {K : PySem.W.Frag} {H : Hp} {a : Addr} {l : List Int} (h : H a = some (.tup (l.map V.int))) : Dp K H (.ref a) (iTup l) := by
  refine .tup (SqT.of h) ?_
  clear h
  induction l with
  | nil => exact .nil
  | cons x r ih => exact .cons (.int x) ih
theorem eqv_ints : ∀ l m : List Int, PyData.eqvAll (l.map PyData.int) (m.map PyData.int) = decide (l = m)
  | [], [] => rfl
  | [], _ :: _ => by simp [PyData.eqvAll]
  | _ :: _, [] => by simp [PyData.eqvAll]
  | x :: l, y :: m => by
    show (PyData.eqv (.int x) (.int y) && PyData.eqvAll (l.map PyData.int) (m.map PyData.int)) = _
    rw [eqv_ints l m]
    simp only [PyData.eqv]
    by_cases h1 : x = y <;> by_cases h2 : l = m <;> simp [h1, h2]
theorem eqv_iTup (l m : List Int) : PyData.eqv (iTup l) (iTup m) = decide (l = m) := by
  unfold iTup
  simp only [PyData.eqv]
  exact eqv_ints l m
theorem shaped_iTup (l : List Int) : SeqAt.shaped (iTup l) = true := by
  have h1 : PyData.canLayAll0 (l.map PyData.int) = true := by
    induction l with
    | nil => simp [PyData.canLayAll0]
    | cons x r ih => simp only [List.map_cons, PyData.canLayAll0, PyData.canLay0, ih, Bool.and_true]
  have h2 : PyData.depthAll (l.map PyData.int) = 0 := by
    clear h1
    induction l with
    | nil => simp only [List.map_nil, PyData.depthAll]
    | cons x r ih => simp only [List.map_cons, PyData.depthAll, PyData.depth, ih]; rfl
  unfold SeqAt.shaped iTup
  simp only [PyData.canLay0, PyData.depth, h1, h2]
  rfl
theorem low_nat {N D T B : Nat} (h : N * B = D * T) (hd : 0 < D) (hb : 0 < B) (g : Nat.gcd N D = 1) : T / Nat.gcd B T = N ∧ B / Nat.gcd B T = D := by
  have d1 : D ∣ N * B := ⟨T, h⟩
  have d2 : D ∣ B := (Nat.Coprime.dvd_of_dvd_mul_left (show Nat.Coprime D N by rw [Nat.coprime_comm]; exact g) d1)
  obtain ⟨c, rfl⟩ := d2
  have ht : T = N * c := by
    have : D * (N * c) = D * T := by rw [← h]; rw [Nat.mul_left_comm]
    exact (Nat.eq_of_mul_eq_mul_left hd this).symm
  subst ht
  have c0 : 0 < c := Nat.pos_of_ne_zero fun z => by rw [z] at hb; simp at hb
  have hg : Nat.gcd (D * c) (N * c) = c := by rw [Nat.gcd_mul_right, Nat.gcd_comm D N, g, Nat.one_mul]
  rw [hg]
  exact ⟨Nat.mul_div_cancel _ c0, Nat.mul_div_cancel _ c0⟩
theorem low_int {n d t b : Int} (h : n * b = d * t) (n0 : 0 ≤ n) (d0 : 0 < d) (b0 : 0 < b) (g : Nat.gcd n.natAbs d.natAbs = 1) : t / gN t b = n ∧ b / gN t b = d := by
  have t0 : 0 ≤ t := by
    rcases Int.lt_or_le t 0 with q | q
    · have h1 : d * t < 0 := Int.mul_neg_of_pos_of_neg d0 q
      have h2 : 0 ≤ n * b := Int.mul_nonneg n0 (by omega)
      omega
    · exact q
  obtain ⟨N, rfl⟩ : ∃ N : Nat, n = (N : Int) := ⟨n.toNat, by omega⟩
  obtain ⟨D, rfl⟩ : ∃ N : Nat, d = (N : Int) := ⟨d.toNat, by omega⟩
  obtain ⟨T, rfl⟩ : ∃ N : Nat, t = (N : Int) := ⟨t.toNat, by omega⟩
  obtain ⟨B, rfl⟩ : ∃ N : Nat, b = (N : Int) := ⟨b.toNat, by omega⟩
  have h' : N * B = D * T := by
    have : ((N * B : Nat) : Int) = ((D * T : Nat) : Int) := by rw [Int.natCast_mul, Int.natCast_mul]; exact h
    omega
  obtain ⟨e1, e2⟩ := low_nat h' (by omega) (by omega) g
  have eg : gN (T : Int) (B : Int) = ((Nat.gcd B T : Nat) : Int) := rfl
  rw [eg, ← Int.natCast_ediv, ← Int.natCast_ediv, e1, e2]
  exact ⟨rfl, rfl⟩
theorem at_int {l : List Int} {i : Nat} {x : V} (hx : (l.map V.int)[i]? = some x) : ∃ z, l[i]? = some z ∧ x = .int z := by
  rw [List.getElem?_map] at hx
  cases q : l[i]? with
  | none => rw [q] at hx; cases hx
  | some z => rw [q] at hx; exact ⟨z, rfl, (Option.some.inj hx).symm⟩
theorem rep_flat2 (l : List Int) (k : Nat) : (List.replicate k (l.map V.int)).flatten = ((List.replicate k l).flatten).map V.int := by
  rw [List.map_flatten, List.map_replicate]
theorem len_rep (l : List Int) (k : Nat) : (List.replicate k l).flatten.length = k * l.length := by
  induction k with
  | zero => simp
  | succ k ih => rw [List.replicate_succ, List.flatten_cons, List.length_append, ih, Nat.succ_mul, Nat.add_comm]
/-! ### a ring of many rounds -/
def Rnd (R R' : List Int) : Prop := R' ≠ [] ∧ ∃ q, R = (List.replicate q R').flatten
theorem nb_rep (b : Int) (l : List Int) (q : Nat) : nb b (List.replicate q l).flatten * (b ^ l.length - 1) = nb b l * (b ^ (q * l.length) - 1) := by
  induction q with
  | zero => simp [nb]
  | succ q ih =>
    rw [List.replicate_succ, List.flatten_cons, nb_app, len_rep, Int.add_mul, ih, Nat.succ_mul, Int.pow_add]
    generalize nb b l = x
    generalize b ^ (q * l.length) = y
    generalize b ^ l.length = z
    simp only [Int.mul_sub, Int.mul_one, Int.mul_assoc]
    omega
theorem red_cross {t b t' b' : Int} (h : t' * b = b' * t) (t0 : 0 ≤ t') (b0 : 0 < b) (b1 : 0 < b') : t / gN t b = t' / gN t' b' ∧ b / gN t b = b' / gN t' b' := by
  obtain ⟨g, hg⟩ : ∃ g, g = gN t' b' := ⟨_, rfl⟩
  have gp : 0 < g := by
    rw [hg]; unfold gN
    have : 0 < Nat.gcd b'.natAbs t'.natAbs := Nat.gcd_pos_of_pos_left _ (by omega)
    omega
  have gt : g ∣ t' := by rw [hg]; unfold gN; exact Int.ofNat_dvd_left.mpr (Nat.gcd_dvd_right _ _)
  have gb : g ∣ b' := by rw [hg]; unfold gN; exact Int.ofNat_dvd_left.mpr (Nat.gcd_dvd_left _ _)
  obtain ⟨n, hn⟩ := gt
  obtain ⟨d, hd⟩ := gb
  have en : t' / g = n := by rw [hn]; exact Int.mul_ediv_cancel_left _ (by omega)
  have ed : b' / g = d := by rw [hd]; exact Int.mul_ediv_cancel_left _ (by omega)
  have n0 : 0 ≤ n := by
    rcases Int.lt_or_le n 0 with q | q
    · have := Int.mul_neg_of_pos_of_neg gp q
      omega
    · exact q
  have d0 : 0 < d := by
    rcases Int.lt_or_le 0 d with q | q
    · exact q
    · have := Int.mul_nonpos_of_nonneg_of_nonpos (show 0 ≤ g by omega) q
      omega
  have gc : Nat.gcd n.natAbs d.natAbs = 1 := by
    have e1 : t'.natAbs = g.natAbs * n.natAbs := by rw [hn, Int.natAbs_mul]
    have e2 : b'.natAbs = g.natAbs * d.natAbs := by rw [hd, Int.natAbs_mul]
    have e3 : g.natAbs = Nat.gcd b'.natAbs t'.natAbs := by rw [hg]; rfl
    rw [e1, e2, Nat.gcd_mul_left] at e3
    have e4 : g.natAbs * Nat.gcd d.natAbs n.natAbs = g.natAbs * 1 := by rw [← e3, Nat.mul_one]
    rw [Nat.gcd_comm]
    exact Nat.eq_of_mul_eq_mul_left (by omega) e4
  have h2 : n * b = d * t := by
    rw [hn, hd, Int.mul_assoc, Int.mul_assoc] at h
    exact Int.eq_of_mul_eq_mul_left (by omega) h
  have := low_int h2 n0 d0 b0 gc
  rw [← hg, en, ed]
  exact this
theorem rnd_q {R R' : List Int} (h : Rnd R R') (hR : R ≠ []) : ∃ q, 0 < q ∧ R = (List.replicate q R').flatten := by
  obtain ⟨_, q, e⟩ := h
  refine ⟨q, Nat.pos_of_ne_zero fun z => hR ?_, e⟩
  subst z; rw [e]; rfl
theorem rnd_digs {b : Int} {R R' : List Int} (h : Rnd R R') (hR : R ≠ []) (hd : ∀ x ∈ R, 0 ≤ x ∧ x < b) : ∀ x ∈ R', 0 ≤ x ∧ x < b := by
  obtain ⟨q, q0, e⟩ := rnd_q h hR
  intro x hx
  refine hd x ?_
  rw [e]
  exact List.mem_flatten.mpr ⟨R', List.mem_replicate.mpr ⟨by omega, rfl⟩, hx⟩
theorem rnd_len {R R' : List Int} (h : Rnd R R') (hR : R ≠ []) : R'.length ≤ R.length := by
  obtain ⟨q, q0, e⟩ := rnd_q h hR
  rw [e, len_rep]
  exact Nat.le_mul_of_pos_left _ q0
section
variable {P : Program} {w : World} {K : PySem.W.Frag} {mg : Str → Option Value} {base : Heap}
def rLenK (K : PySem.W.Frag) : List V → Hp → VK → Prop := fun xs H Q => ∃ p ys, xs = [V.ref p] ∧ (SqL K H p ys ∨ SqT K H p ys) ∧ Q (V.int (ys.length : Int)) H
def spOnce (K : PySem.W.Frag) : Sp := fun vs H Q _ => ∃ (v : V) (R : List Int) (G : Hp), vs = [v] ∧ Same G H ∧ Dq K G v (iTup R) ∧ R ≠ [] ∧ R.length ≤ 1000 ∧
  ∀ (R' : List Int) (v' : V) (G' H' : Hp), Nw G H G' H' → Dq K G' v' (iTup R') → Rnd R R' → Q v' H'
end
end My

namespace My
open PySem PySem.Spec PyProof.Rows L2
abbrev sWritings : Stmt := topS 2
theorem inV_int (r : Int) (l : List Int) : inV (.int r) (l.map V.int) = decide (r ∈ l) := by
  unfold inV
  rw [List.any_map]
  induction l with
  | nil => rfl
  | cons x l ih =>
    rw [List.any_cons, ih]
    by_cases h : r = x
    · subst h
      simp [eqV]
    · have h1 : (x == r) = false := beq_eq_false_iff_ne.mpr fun z => h z.symm
      show ((x == r) || decide (r ∈ l)) = decide (r ∈ x :: l)
      rw [h1, Bool.false_or]
      exact decide_eq_decide.mpr ⟨fun z => List.mem_cons_of_mem _ z, fun z => (List.mem_cons.mp z).resolve_left h⟩
theorem flat_ints (l : List Int) : (l.map V.int).all flatV = true := by
  rw [List.all_map]
  exact List.all_eq_true.mpr fun _ _ => rfl
def rl (b d n : Int) (m : Nat) : List Int := (List.range m).map (rs b d n)
theorem rl_succ (b d n : Int) (m : Nat) : rl b d n (m + 1) = rl b d n m ++ [rs b d n m] := by
  unfold rl; rw [List.range_succ, List.map_append]; rfl
theorem rl_len (b d n : Int) (m : Nat) : (rl b d n m).length = m := by unfold rl; rw [List.length_map, List.length_range]
theorem rl_get {b d n : Int} {m i : Nat} (h : i < m) : (rl b d n m)[i]? = some (rs b d n i) := by
  unfold rl; rw [List.getElem?_map, List.getElem?_range h]; rfl
theorem rl_mem {b d n : Int} {m : Nat} {r : Int} : r ∈ rl b d n m ↔ ∃ j, j < m ∧ rs b d n j = r := by
  unfold rl
  rw [List.mem_map]
  constructor
  · rintro ⟨j, h, e⟩; exact ⟨j, List.mem_range.mp h, e⟩
  · rintro ⟨j, h, e⟩; exact ⟨j, List.mem_range.mpr h, e⟩
theorem rep_flat (x : Int) (k : Nat) : (List.replicate k [V.int x]).flatten = (List.replicate k x).map V.int := by
  induction k with
  | zero => rfl
  | succ k ih => rw [List.replicate_succ, List.flatten_cons, ih, List.replicate_succ]; rfl
theorem nb_nines (b : Int) (k : Nat) : nb b (List.replicate k (b - 1)) = b ^ k - 1 := by
  induction k with
  | zero => simp [nb]
  | succ k ih =>
    rw [List.replicate_succ', nb_snoc, ih, Int.pow_succ, Int.sub_mul]
    omega
theorem nb_zeros (b : Int) (k : Nat) : nb b (List.replicate k 0) = 0 := by
  induction k with
  | zero => simp [nb]
  | succ k ih => rw [List.replicate_succ', nb_snoc, ih]; simp
theorem nb_scale (b : Int) (k : Nat) : nb b (1 :: List.replicate k 0) = b ^ k := by
  have := nb_app b [1] (List.replicate k 0)
  rw [nb_zeros, List.length_replicate] at this
  have e : nb b [1] = 1 := by simp [nb]
  rw [e] at this
  simpa using this
section
variable {P : Program} {w : World} {K : PySem.W.Frag} {mg : Str → Option Value} {base : Heap}
end
end My

namespace My
open PySem PySem.Spec PyProof.Rows L2
def less (S : List Int) : List Int := match S.reverse with
  | [] => []
  | z :: r => r.reverse ++ [z - 1]
theorem less_snoc (T : List Int) (z : Int) : less (T ++ [z]) = T ++ [z - 1] := by
  unfold less
  rw [List.reverse_append]
  show T.reverse.reverse ++ [z - 1] = T ++ [z - 1]
  rw [List.reverse_reverse]
def wOf (b : Int) (S R : List Int) : List (List Int × List Int) := if R = [0] ∧ S ≠ [] then [(S, R), (less S, [b - 1])] else [(S, R)]
def pairD (p : List Int × List Int) : PyData := .tuple [iTup p.1, iTup p.2]
def WR (b n d : Int) (W : List (List Int × List Int)) : Prop := (n = d ∧ W = [([], [b - 1])]) ∨ (n ≠ d ∧ ∃ m k, Dv b d n m k ∧ W = wOf b ((dl b d n m).take k) ((dl b d n m).drop k))
theorem WR.uniq {b n d : Int} {W W' : List (List Int × List Int)} (h : WR b n d W) (h' : WR b n d W') : W = W' := by
  rcases h with ⟨e, rfl⟩ | ⟨e, m, k, dv, rfl⟩
  · rcases h' with ⟨_, rfl⟩ | ⟨e', _⟩
    · rfl
    · exact absurd e e'
  · rcases h' with ⟨e', _⟩ | ⟨_, m', k', dv', rfl⟩
    · exact absurd e' e
    · obtain ⟨rfl, rfl⟩ := dv.uniq dv'
      rfl
structure Fra (b n d : Int) : Prop where
  b0 : 2 ≤ b
  b1 : b ≤ 10
  n0 : 0 ≤ n
  nd : n ≤ d
  d0 : 0 < d
  dz : d.natAbs < 2 ^ 8000
  soon : n ≠ d → Soon b d n
  gc : Nat.gcd n.natAbs d.natAbs = 1
theorem Fra.ask {b n d : Int} (h : Fra b n d) (z : n ≠ d) : Asked b d n := ⟨h.b0, h.b1, h.n0, by have := h.nd; omega, h.dz, h.soon z, h.gc⟩
def spWr (K : PySem.W.Frag) : Sp := fun vs H Q _ => ∃ (b n d : Int) (v : V) (G : Hp), vs = [.int b, v] ∧ Same G H ∧ Dq K G v (.tuple [.int n, .int d]) ∧ Fra b n d ∧
  ∀ W, WR b n d W → ∀ (q : Addr) (ws : List V) (G' H' : Hp), Nw G H G' H' → H' q = some (.lst ws) → G' q = none → H q = none → DqAll K G' ws (W.map pairD) → Q (.ref q) H'
theorem dq_pair {K : PySem.W.Frag} {G : Hp} {v : V} {n d : Int} (h : Dq K G v (.tuple [.int n, .int d])) : ∃ a, v = .ref a ∧ G a = some (.tup [.int n, .int d]) := dq_tup (l := [n, d]) h
theorem dq_two {K : PySem.W.Frag} {G : Hp} {v : V} {S R : List Int} (h : Dq K G v (.tuple [iTup S, iTup R])) : ∃ a x y, v = .ref a ∧ G a = some (.tup [.ref x, .ref y]) ∧ G x = some (.tup (S.map V.int)) ∧ G y = some (.tup (R.map V.int)) := by
  cases h with
  | tup hs ha =>
    cases ha with
    | cons h1 h2 =>
      cases h2 with
      | cons h2 h3 =>
        cases h3
        obtain ⟨x, rfl, hx⟩ := dq_tup h1
        obtain ⟨y, rfl, hy⟩ := dq_tup h2
        exact ⟨_, x, y, rfl, hs, hx, hy⟩
section
variable {P : Program} {w : World} {K : PySem.W.Frag} {mg : Str → Option Value} {base : Heap}
theorem scWritings : FnScope ["base", "fraction", "top", "bottom", "stem", "ring", "lesser"] ["base", "fraction"] (defScope sWritings) := ⟨rfl, rfl, rfl, by decide +kernel, rfl, by decide +kernel, by decide +kernel⟩
theorem atI_snoc (T : List Int) (z : Int) : atI ((T ++ [z]).map V.int) (-1) = some (.int z) := by
  rw [List.map_append]; exact atI_last _ _
theorem cut_last (T : List Int) (z : Int) : cutV ((T ++ [z]).map V.int) none (some (-1)) = T.map V.int := by
  unfold cutV
  have a1 : HT.sIx ((T ++ [z]).map V.int).length 0 none = 0 := rfl
  have a2 : HT.sIx ((T ++ [z]).map V.int).length ((T ++ [z]).map V.int).length (some (-1)) = T.length := by
    unfold HT.sIx
    simp only
    rw [if_pos (by decide), List.length_map, List.length_append, List.length_singleton]
    omega
  rw [a1, a2, List.drop_zero, Nat.sub_zero, List.map_append, List.take_left' (by rw [List.length_map])]
theorem ok_writings {f fDv : Addr} {fd fdDv : FuncData} (F : Fun K "writings_of" "writings_of" sWritings f fd) (T : Tx mg) (FDv : Fun K "_divided" "_divided" sDivided fDv fdDv) (GDv : FnOk P w K mg base CX0 2 fDv fdDv ["base", "top", "bottom"] (spDivided K)) (bDv : Binds K fdDv ["base", "top", "bottom"] []) (gDv : mg "_divided" = some (.ref fDv)) :
    FnOk P w K mg base CX0 3 f fd ["base", "fraction"] (spWr K) := by
  refine F.ok scWritings (fun vs H Q E h => ?_) (fun cdv A outer s H vs Q E hr h => ?_)
  · obtain ⟨b, n, d, v, G, rfl, _⟩ := h
    rfl
  · obtain ⟨b, n, d, v, G, rfl, e, dv, fr, k⟩ := h
    have hr1 := hr
    obtain ⟨a, rfl, ha⟩ := dq_pair dv
    refine ⟨_, (pss_cons (ps_asg (pv 1) (pg_tup (by rfl) (pgs_cons (pg_name (i := 2) scWritings.nd rfl (Or.inl rfl)) (pgs_cons (pg_name (i := 3) scWritings.nd rfl (Or.inl rfl)) pgs_nil))))
      (pss_cons (ps_if (pt_cmpR op_eq (pv 2) (pv 3) (nomark _)) (pss_one (ps_ret (pe_lst (pa_cons (pe_tup (pa_cons (pe_tup pa_nil) (pa_cons (pe_tup (pa_cons (pe_op op_sub (pv 0) pe_int) pa_nil)) pa_nil))) pa_nil)))) pss_nil)
      (pss_cons (ps_asg (pe_call GDv hr1 (by rfl) gDv FDv.kp bDv .nil pass0 (pa_cons (pv 0) (pa_cons (pv 2) (pa_cons (pv 3) pa_nil)))) (pg_tup (by rfl) (pgs_cons (pg_name (i := 4) scWritings.nd rfl (Or.inl rfl)) (pgs_cons (pg_name (i := 5) scWritings.nd rfl (Or.inl rfl)) pgs_nil))))
      (pss_cons (ps_if (PW.pt (pw_or (pt_cmpR (op_neD hr.units) (pv 5) (pe_tup (pa_cons pe_int pa_nil)) (nomark _)) (pw_or1 (pt_not (pt_truth (pv 4) (by intro _; rfl)))))) (pss_one (ps_ret (pe_lst (pa_cons (pe_tup (pa_cons (pv 4) (pa_cons (pv 5) pa_nil))) pa_nil)))) pss_nil)
      (pss_cons (ps_set (i := 6) scWritings.nd rfl (Or.inl rfl) (pe_op op_catG (pe_slice sl_tupG (pv 4) po_none (po_some (pe_un un_neg pe_int))) (pe_tup (pa_cons (pe_op op_sub (pe_ix ix_tup (pv 4) (pe_un un_neg pe_int) (fun _ _ => rfl)) pe_int) pa_nil))))
      (pss_one (ps_ret (pe_lst (pa_cons (pe_tup (pa_cons (pv 4) (pa_cons (pv 5) pa_nil))) (pa_cons (pe_tup (pa_cons (pv 6) (pa_cons (pe_tup (pa_cons (pe_op op_sub (pv 0) pe_int) pa_nil)) pa_nil))) pa_nil)))))))))), ?_⟩
    refine ⟨_, rfl, a, _, rfl, SqT.of (e _ _ ha), rfl, _, _, rfl, _, _, rfl, rfl, ?_⟩
    refine ⟨_, rfl, _, rfl, rfl, _, rfl, ite2 (fun z => ?_) (fun z => ?_)⟩
    · have hnd : n = d := V.int.inj (of_decide_eq_true z)
      refine ⟨by decide, fun t1 nt1 => ?_⟩
      have m1 := Nw.mk1 e nt1 (.tup [])
      refine ⟨_, rfl, _, _, rfl, rfl, (by show 1 ≤ sizeLine; decide), fun t2 nt2 => ?_⟩
      have m2 := Nw.mk1 m1.gh nt2 (.tup [.int (b - 1)])
      refine ⟨(by show 2 ≤ sizeLine; decide), fun t3 nt3 => ?_⟩
      have m3 := Nw.mk1 m2.gh nt3 (.tup [.ref t1, .ref t2])
      refine ⟨(by show 1 ≤ sizeLine; decide), fun q nq => ?_⟩
      have m := ((m1.trans m2).trans m3)
      have m4 := lst_new m nq (.lst [.ref t3])
      exact k [([], [b - 1])] (.inl ⟨hnd, rfl⟩) q _ _ _ m4 upd_same (m.gh.free nq) (m.hh.free nq) (.cons (.tup upd_same (.cons (dq_mk (l := []) (m3.gg _ _ (m2.gg _ _ upd_same))) (.cons (dq_mk (l := [b - 1]) (m3.gg _ _ upd_same)) .nil))) .nil)
    · have hnd : n ≠ d := fun q => z (decide_eq_true (by rw [q]))
      refine ⟨_, rfl, _, rfl, _, rfl, b, n, d, G, rfl, fr.ask hnd, e, fun m0 k0 hd v1 G1 H1 m1 d1 => ?_⟩
      obtain ⟨S, hS⟩ : ∃ S, (dl b d n m0).take k0 = S := ⟨_, rfl⟩
      obtain ⟨R, hR⟩ : ∃ R, (dl b d n m0).drop k0 = R := ⟨_, rfl⟩
      have kk := fun W (hw : W = wOf b S R) => k W (.inr ⟨hnd, m0, k0, hd, by rw [hS, hR]; exact hw⟩)
      rw [hS, hR] at d1
      obtain ⟨pa, x, y, rfl, hpa, hx, hy⟩ := dq_two d1
      refine ⟨pa, _, rfl, SqT.of (m1.gh _ _ hpa), rfl, _, _, rfl, _, _, rfl, rfl, ?_⟩
      refine ⟨_, rfl, (by show 1 ≤ sizeLine; decide), fun t0 nt0 => ?_⟩
      have m2 := Nw.mk1 m1.gh nt0 (.tup [.int 0])
      have m12 := m1.trans m2
      refine ⟨iTup R, iTup [0], dp_ints (m2.gh _ _ (m2.gg _ _ hy)), dp_ints (l := [0]) upd_same, shaped_iTup _, shaped_iTup _, _, rfl, ?_⟩
      rw [eqv_iTup]
      have one : ∀ (G2 H2 : Hp), Nw G H G2 H2 → G2 x = some (.tup (S.map V.int)) → G2 y = some (.tup (R.map V.int)) → wOf b S R = [(S, R)] → ∀ t3, H2 t3 = none → ∀ q, (upd H2 t3 (.tup [.ref x, .ref y])) q = none → Q (.ref q) (upd (upd H2 t3 (.tup [.ref x, .ref y])) q (.lst [.ref t3])) := by
        intro G2 H2 n2 hx2 hy2 hw t3 nt3 q nq
        have m3 := n2.trans (Nw.mk1 n2.gh nt3 (.tup [.ref x, .ref y]))
        have m4 := lst_new m3 nq (.lst [.ref t3])
        have gg3 := (Nw.mk1 n2.gh nt3 (.tup [.ref x, .ref y])).gg
        exact kk [(S, R)] hw.symm q _ _ _ m4 upd_same (m3.gh.free nq) (m3.hh.free nq) (.cons (.tup upd_same (.cons (dq_mk (gg3 _ _ hx2)) (.cons (dq_mk (gg3 _ _ hy2)) .nil))) .nil)
      by_cases hR0 : R = [0]
      · refine ifF (by rw [decide_eq_true hR0]; rfl) ?_
        refine ⟨_, rfl, !(S.map V.int).isEmpty, .inr (.inl ⟨_, SqT.of (m12.gh _ _ (m2.gg _ _ hx)), rfl⟩), ?_⟩
        rcases List.eq_nil_or_concat S with hS0 | ⟨T', z', hST⟩
        · refine ifT (by rw [hS0]; rfl) ⟨_, rfl, _, rfl, (by show 2 ≤ sizeLine; decide), fun t3 nt3 => ⟨(by show 1 ≤ sizeLine; decide), fun q nq => ?_⟩⟩
          exact one _ _ m12 (m2.gg _ _ hx) (m2.gg _ _ hy) (by unfold wOf; rw [if_neg (fun z => z.2 hS0)]) t3 nt3 q nq
        · rw [List.concat_eq_append] at hST
          have hx' := hx
          rw [hST] at hx'
          refine ifF (by rw [hST]; simp) ?_
          -- lesser
          refine ⟨_, rfl, _, rfl, -1, rfl, _, x, _, rfl, m12.gh, m2.gg _ _ hx', fun c G3 H3 m3 hc => ?_⟩
          rw [cut_last] at hc
          have m13 := m12.trans m3
          have hx3 := m3.gg _ _ (m2.gg _ _ hx')
          refine ⟨_, rfl, _, rfl, x, _, -1, .int z', rfl, rfl, SqT.of (m3.gh _ _ hx3), atI_snoc T' z', _, _, rfl, rfl, (by show 1 ≤ sizeLine; decide), fun t4 nt4 => ?_⟩
          have m4 := Nw.mk1 m3.gh nt4 (.tup [.int (z' - 1)])
          refine ⟨_, c, t4, _, _, rfl, rfl, m4.gh, m4.gg _ _ hc, upd_same, ?_, fun u G5 H5 m5 hu => ?_⟩
          · have := dl_len b d n m0
            have h2 : S.length ≤ m0 := by rw [← hS, List.length_take, dl_len]; omega
            have h3 : m0 ≤ 1000 := soon_le (fr.soon hnd) hd.inj
            rw [List.length_map, sizeLine_eq]
            rw [hST, List.length_append] at h2
            simp only [List.length_cons, List.length_nil] at h2 ⊢
            omega
          have hu' : G5 u = some (.tup ((less S).map V.int)) := by
            rw [hST, less_snoc, List.map_append]; exact hu
          have g45 := m4.gg.trans m5.gg
          have m15 := (m13.trans m4).trans m5
          refine ⟨_, rfl, _, rfl, (by show 2 ≤ sizeLine; decide), fun t5 nt5 => ?_⟩
          have m6 := Nw.mk1 m5.gh nt5 (.tup [.ref x, .ref y])
          refine ⟨_, rfl, _, rfl, _, _, rfl, rfl, (by show 1 ≤ sizeLine; decide), fun t6 nt6 => ?_⟩
          have m7 := Nw.mk1 m6.gh nt6 (.tup [.int (b - 1)])
          refine ⟨(by show 2 ≤ sizeLine; decide), fun t7 nt7 => ?_⟩
          have m8 := Nw.mk1 m7.gh nt7 (.tup [.ref u, .ref t6])
          refine ⟨(by show 2 ≤ sizeLine; decide), fun q nq => ?_⟩
          have m18 := ((m15.trans m6).trans m7).trans m8
          have m9 := lst_new m18 nq (.lst [.ref t5, .ref t7])
          have gall := (m6.gg.trans m7.gg).trans m8.gg
          have hx5 : G5 x = some (.tup (S.map V.int)) := by rw [hST]; exact g45 _ _ hx3
          have hy5 := g45 _ _ (m3.gg _ _ (m2.gg _ _ hy))
          refine kk [(S, R), (less S, [b - 1])] ?_ q _ _ _ m9 upd_same (m18.gh.free nq) (m18.hh.free nq) (.cons (.tup (m8.gg _ _ (m7.gg _ _ upd_same)) (.cons (dq_mk (gall _ _ hx5)) (.cons (dq_mk (gall _ _ hy5)) .nil))) (.cons (.tup upd_same (.cons (dq_mk (gall _ _ hu')) (.cons (dq_mk (l := [b - 1]) (m8.gg _ _ upd_same)) .nil))) .nil))
          unfold wOf
          rw [if_pos ⟨hR0, by rw [hST]; simp⟩]
      · refine ifT (by rw [decide_eq_false hR0]; rfl) ⟨_, rfl, _, rfl, (by show 2 ≤ sizeLine; decide), fun t3 nt3 => ⟨(by show 1 ≤ sizeLine; decide), fun q nq => ?_⟩⟩
        exact one _ _ m12 (m2.gg _ _ hx) (m2.gg _ _ hy) (by unfold wOf; rw [if_neg (fun z => hR0 z.1)]) t3 nt3 q nq
end
end My

namespace My
open PySem PySem.Spec PyProof.Rows L2
/-! ### a fraction of stem and ring as lists -/
def iLst (l : List Int) : PyData := .list (l.map .int)
theorem dpl_ints {K : PySem.W.Frag} {H : Hp} {a : Addr} {l : List Int} (h : H a = some (.lst (l.map V.int))) : Dp K H (.ref a) (iLst l) := by
  refine .lst (SqL.of h) ?_
  clear h
  induction l with
  | nil => exact .nil
  | cons x r ih => exact .cons (.int x) ih
theorem eqv_iLst (l m : List Int) : PyData.eqv (iLst l) (iLst m) = decide (l = m) := by
  unfold iLst
  simp only [PyData.eqv]
  exact eqv_ints l m
theorem shaped_iLst (l : List Int) : SeqAt.shaped (iLst l) = true := by
  have h1 : PyData.canLayAll0 (l.map PyData.int) = true := by
    induction l with
    | nil => simp [PyData.canLayAll0]
    | cons x r ih => simp only [List.map_cons, PyData.canLayAll0, PyData.canLay0, ih, Bool.and_true]
  have h2 : PyData.depthAll (l.map PyData.int) = 0 := by
    clear h1
    induction l with
    | nil => simp only [List.map_nil, PyData.depthAll]
    | cons x r ih => simp only [List.map_cons, PyData.depthAll, PyData.depth, ih]; rfl
  unfold SeqAt.shaped iLst
  simp only [PyData.canLay0, PyData.depth, h1, h2]
  rfl
end My

set_option linter.all false
namespace My
open PySem PySem.Spec PyProof.Rows L2
abbrev sSure : Stmt := topS 16
theorem range_filt {α β : Type} (p : α → Bool) (g : α → β) (d : α) (l : List α) : ((List.range l.length).filter fun i => p (l.getD i d)).map (fun i => g (l.getD i d)) = (l.filter p).map g := by
  have h : (List.range l.length).map (fun i => l.getD i d) = l := by
    have := range_getD (fun x => x) d l
    simpa using this
  have : l.filter p = ((List.range l.length).filter fun i => p (l.getD i d)).map fun i => l.getD i d := by
    conv => lhs; rw [← h]
    rw [List.filter_map]; rfl
  rw [this, List.map_map]; rfl
abbrev nI (l : List Nat) : List Int := l.map fun i : Nat => (i : Int)
theorem nI_inj {l m : List Nat} (h : nI l = nI m) : l = m := by
  have := congrArg (List.map Int.toNat) h
  rw [nI, nI, List.map_map, List.map_map] at this
  have e : (Int.toNat ∘ fun i : Nat => (i : Int)) = id := funext fun i => Int.toNat_natCast i
  rwa [e, List.map_id, List.map_id] at this
theorem nI_at {l : List Nat} {i : Nat} {x : V} (h : ((nI l).map V.int)[i]? = some x) : ∃ n, l[i]? = some n ∧ x = .int (n : Nat) := by
  rw [List.getElem?_map, List.getElem?_map] at h
  cases e : l[i]? with
  | none => rw [e] at h; cases h
  | some n => rw [e] at h; exact ⟨n, rfl, (Option.some.inj h).symm⟩
theorem sure_kept {n : Nat} {P : Nat → Nat → Int} {s : Int} (h : Rg.Pk n P s) (q : Nat → Bool) (hq : ∀ i, i < n → q i = false → Rg.Pw n P s i) {i : Nat} (hi : i < n) (ne : (((List.range n).filter q).map (P i)).sum ≠ s) : Rg.Pw n P s i := by
  by_cases c : ((List.range n).map (P i)).sum < s
  · exact .leak hi c
  · have h1 := h.row hi
    have h2 := h.nn i hi n
    have e : ((List.range n).map (P i)).sum = s := by omega
    rw [Rg.s_filter (g := P i) q] at e
    have h3 := Rg.s_nn (g := P i) (l := (List.range n).filter fun x => !q x) fun t _ => h.nn i hi t
    by_cases z : ∃ j, j < n ∧ q j = false ∧ 0 < P i j
    · obtain ⟨j, hj, qj, pj⟩ := z
      exact .step hi hj pj (hq j hj qj)
    · have : (((List.range n).filter fun x => !q x).map (P i)).sum = 0 := Rg.s_zero fun j hj => by
        obtain ⟨a, b⟩ := List.mem_filter.mp hj
        have hj := List.mem_range.mp a
        have := h.nn i hi j
        have : ¬ 0 < P i j := fun w => z ⟨j, hj, by simpa using b, w⟩
        omega
      omega
theorem sure_done {n : Nat} {P : Nat → Nat → Int} {s : Int} (h : Rg.Pk n P s) (q : Nat → Bool) (hq : ∀ i, i < n → q i = false → Rg.Pw n P s i) (cl : ∀ i ∈ (List.range n).filter q, (((List.range n).filter q).map (P i)).sum = s) : (List.range n).filter q = Rg.sr n P s := by
  unfold Rg.sr
  refine List.filter_congr fun i hi => ?_
  have hi := List.mem_range.mp hi
  unfold Rg.pwb
  cases e : q i with
  | false =>
    have := hq i hi e
    simp [this]
  | true =>
    have := fun w => Rg.closed_stay h q (fun i hi qi => cl i (List.mem_filter.mpr ⟨List.mem_range.mpr hi, qi⟩)) i w hi e
    simpa using this
section
variable {P : Program} {w : World} {K : PySem.W.Frag} {mg : Str → Option Value} {base : Heap}
theorem scSure : FnScope ["lines", "size", "sure", "kept", "number", "other"] ["lines", "size"] (defScope sSure) := ⟨rfl, rfl, rfl, by decide +kernel, rfl, by decide +kernel, by decide +kernel⟩
def spSure : Sp := fun vs H Q _ => ∃ (a : Addr) (s : Int) (n : Nat) (Pm : Nat → Nat → Int), vs = [.ref a, .int s] ∧ n ≤ 8 ∧ MatL H a n (linF Pm (n + 1)) ∧ Rg.Pk n Pm s ∧
  ∀ (L : Addr) (H' : Hp), Same H H' → H' L = some (.lst ((nI (Rg.sr n Pm s)).map V.int)) → Q (.ref L) H'
set_option maxHeartbeats 1000000 in
theorem ok_sure {f : Addr} {fd : FuncData} (F0 : Fun K "_sure_of" "_sure_of" sSure f fd) (T : TgC mg) : FnOk P w K mg base CX0 1 f fd ["lines", "size"] spSure := by
  refine F0.ok scSure (fun vs H Q E h => ?_) (fun cdv A outer s0 H vs Q E hr h => ?_)
  · obtain ⟨a, s, n, Pm, rfl, _⟩ := h
    rfl
  · obtain ⟨a, s, n, Pm, rfl, n8, hM, PK, k⟩ := h
    refine ⟨_, (pss_cons (ps_set (i := 2) scSure.nd rfl (Or.inr rfl) (pe_listRg (by rfl) (by rfl) T.list (prg_1 (by rfl) T.range (pe_callB call_len_seq (by rfl) T.len PySem.boot_len (pa_cons (pv 0) pa_nil)))))
      (pss_one (ps_while PassesOwn.never (pt_val pe_bl) (pss_cons (ps_setLc (i := 3) (own := [("number", 4)]) (g := gName 4) rfl scSure.nd rfl (by rfl) (sw_true (by rfl) (by rfl) (by rfl) (by rfl)) (show PI _ _ _ (iList K _) from pi_list (pv 2)) (blkOk_by (N := ["lines", "size", "sure", "kept", "number", "other"]) (sc := defScope sSure) (by decide +kernel)) (fun _ _ _ _ _ => (pg_name (i := 4) scSure.nd rfl (Or.inr rfl))) (fun _ _ _ _ _ => (pts_one (pt_cmpR op_eq (pe_callB (show CallR _ _ (rSum K) from cr_sum rfl) (by rfl) T.sum boot_sum (pa_cons (pe_lc (own := [("other", 5)]) (g := gName 5) (tt := tYes) rfl scSure.nd (show PI _ _ _ (iList K _) from pi_list (pv 2)) (blkOk_by (N := ["lines", "size", "sure", "kept", "number", "other"]) (sc := ({ kind := PySem.ScopeKind.function, names := [(".0", PySem.NameKind.local), ("number", PySem.NameKind.cell), ("sum", PySem.NameKind.globalImplicit), ("lines", PySem.NameKind.cell), ("size", PySem.NameKind.cell), ("sure", PySem.NameKind.cell)], isGenerator := false, isCoroutine := false, more := [] } : PySem.Scope)) (by decide +kernel)) (fun _ _ _ _ _ => (pg_name (i := 5) scSure.nd rfl (Or.inl rfl))) (fun _ _ _ _ _ => pts_nil) (fun _ _ _ _ _ => (pe_ix (show IxR _ (rIxL K) from ix_list) (pe_ix (show IxR _ (rIxL K) from ix_list) (pv 0) (pv 4) (fun _ _ => rfl)) (pv 5) (fun _ _ => rfl)))) pa_nil)) (pv 1) (nomark _)))) (fun _ _ _ _ _ => (pv 4)))
      (pss_cons (ps_if (pt_cmpR (op_eqD hr.units) (pv 3) (pv 2) (nomark _)) (pss_one (ps_ret (pv 2))) pss_nil)
      (pss_one (ps_set (i := 2) scSure.nd rfl (Or.inr rfl) (pv 3)))))))), ?_⟩
    obtain ⟨ls, l1, l2, l3⟩ := hM.ex
    refine ⟨_, rfl, a, _, rfl, .inl (SqL.of l1), _, rfl, .of_le (by decide) (by rw [List.length_map, l2]; omega) (by decide) (by omega), fun q nq => ?_⟩
    have sq := same_upd (o := .lst (rgV 0 ((ls.map V.ref).length : Nat))) nq
    have hq := upd_same (H := H) (a := q) (o := .lst (rgV 0 ((ls.map V.ref).length : Nat)))
    have rg0 : rgV 0 ((ls.map V.ref).length : Nat) = (nI ((List.range n).filter fun _ => true)).map V.int := by
      unfold rgV nI
      rw [List.length_map, l2, show (List.range n).filter (fun _ => true) = List.range n from List.filter_eq_self.mpr fun _ _ => rfl, List.map_map, Int.sub_zero, Int.toNat_natCast]
      exact List.map_congr_left fun i _ => by simp
    rw [rg0] at sq hq ⊢
    generalize upd H q (.lst ((nI ((List.range n).filter fun _ => true)).map V.int)) = H1 at sq hq ⊢
    refine ⟨fun m σ Ho => Same H Ho ∧ ∃ (l : Addr) (q : Nat → Bool) (y3 : Option V), σ = [some (.ref a), some (.int s), some (.ref l), y3, none, none] ∧ Ho l = some (.lst ((nI ((List.range n).filter q)).map V.int)) ∧ (∀ i, i < n → q i = false → Rg.Pw n Pm s i) ∧ m = ((List.range n).filter q).length, ⟨_, sq, q, fun _ => true, _, rfl, hq, (fun _ _ h => Bool.noConfusion h), rfl⟩, ?_⟩
    rintro m σ Ho ⟨sa, l, q, y3, rfl, hl, hq, rfl⟩
    refine ⟨_, rfl, ?_⟩
    obtain ⟨sl, hsl⟩ : ∃ sl, (List.range n).filter q = sl := ⟨_, rfl⟩
    have sm : ∀ i ∈ sl, i < n := fun i hi => by rw [← hsl] at hi; exact List.mem_range.mp (List.mem_filter.mp hi).1
    have sl8 : sl.length ≤ 8 := by rw [← hsl]; exact Nat.le_trans (List.length_filter_le _ _) (by rw [List.length_range]; exact n8)
    rw [hsl] at hl ⊢
    rw [if_pos rfl]
    have N : ∀ σ' H', (∃ m', m' < sl.length ∧ Same H H' ∧ ∃ (l : Addr) (q : Nat → Bool) (y3 : Option V), σ' = [some (.ref a), some (.int s), some (.ref l), y3, none, none] ∧ H' l = some (.lst ((nI ((List.range n).filter q)).map V.int)) ∧ (∀ i, i < n → q i = false → Rg.Pw n Pm s i) ∧ m' = ((List.range n).filter q).length) → ∃ m', m' < sl.length ∧ Same H H' ∧ ∃ (l : Addr) (q : Nat → Bool) (y3 : Option V), σ' = [some (.ref a), some (.int s), some (.ref l), y3, none, none] ∧ H' l = some (.lst ((nI ((List.range n).filter q)).map V.int)) ∧ (∀ i, i < n → q i = false → Rg.Pw n Pm s i) ∧ m' = ((List.range n).filter q).length := fun _ _ h => h
    refine ⟨_, N, ?_⟩
    refine ⟨_, rfl, l, rfl, ⟨_, SqL.of hl⟩, fun D nD => ?_⟩
    have row := fun {i : Nat} (hi : i ∈ sl) => (show ∃ lq, ls[i]? = some lq from ⟨ls[i]'(by rw [l2]; exact sm i hi), List.getElem?_eq_getElem _⟩)
    refine lc_gen (walk_list (K := K) (a := l) (xs := (nI sl).map V.int)) (fun i => decide ((sl.map (Pm (sl.getD i 0))).sum = s)) (fun i => .int ((sl.getD i 0 : Nat) : Int)) nD (by rw [List.length_map, List.length_map, sizeLine_eq]; omega) (fun Ha s1 => SqL.of (s1 _ _ hl)) (fun i x Ha Hb hi s1 yy Q2 R2 q2 r2 => ?_) fun Ha s1 hD => ?_
    · obtain ⟨rfl, hx⟩ := yy
      obtain ⟨ni, hni, rfl⟩ := nI_at hx
      rw [getD_at hni] at q2 r2
      obtain ⟨lq, hlq⟩ := row (List.mem_of_getElem? hni)
      refine ⟨rfl, ?_⟩
      refine ⟨_, rfl, l, rfl, ⟨_, SqL.of (s1 _ _ hl)⟩, fun D2 nD2 => ?_⟩
      refine lc_gen (walk_list (K := K) (a := l) (xs := (nI sl).map V.int)) (fun _ => true) (fun j => .int (Pm ni (sl.getD j 0))) nD2 (by rw [List.length_map, List.length_map, sizeLine_eq]; omega) (fun Hc s2 => SqL.of (s2 _ _ (s1 _ _ hl))) (fun j x Hc Hd hj s2 yy Q3 R3 q3 r3 => ?_) fun Hc s2 hD2 => ?_
      · obtain ⟨rfl, hx⟩ := yy
        obtain ⟨nj, hnj, rfl⟩ := nI_at hx
        have q4 := q3 rfl
        rw [getD_at hnj] at q4
        refine ⟨rfl, tyes ?_⟩
        have jn := sm _ (List.mem_of_getElem? hnj)
        exact ⟨_, rfl, _, rfl, a, _, _, _, rfl, rfl, SqL.of (s2 _ _ (s1 _ _ (sa _ _ l1))), atI_nat (by rw [List.getElem?_map, hlq]; rfl), _, rfl, lq, _, _, _, rfl, rfl, SqL.of (s2 _ _ (s1 _ _ (sa _ _ (l3 _ _ hlq)))), atI_nat (lin_at (by omega)), q4 _ (Same.refl _)⟩
      · rw [range_all _ (fun _ => true), List.length_map, List.length_map, range_getD (fun j => V.int (Pm ni j)) 0 sl, show sl.map (fun j => V.int (Pm ni j)) = (sl.map (Pm ni)).map V.int by rw [List.map_map]; rfl] at hD2
        refine ⟨D2, _, rfl, SqL.of hD2, _, rfl, rfl, _, rfl, ?_⟩
        by_cases c : (sl.map (Pm ni)).sum = s
        · dsimp only
          refine ifT (by rw [c]; exact decide_eq_true rfl) ?_
          exact ⟨_, rfl, q2 (decide_eq_true c) _ s2⟩
        · dsimp only
          refine ifF (decide_eq_false fun z => c (by injection z)) ?_
          exact r2 (decide_eq_false c) _ s2
    · rw [List.length_map, List.length_map, range_filt (fun i => decide ((sl.map (Pm i)).sum = s)) (fun i => V.int ((i : Nat) : Int)) 0 sl, show (sl.filter fun i => decide ((sl.map (Pm i)).sum = s)).map (fun i => V.int ((i : Nat) : Int)) = (nI (sl.filter fun i => decide ((sl.map (Pm i)).sum = s))).map V.int by rw [nI, List.map_map]; rfl] at hD
      obtain ⟨kp, hkp⟩ : ∃ kp, (sl.filter fun i => decide ((sl.map (Pm i)).sum = s)) = kp := ⟨_, rfl⟩
      rw [hkp] at hD
      refine ⟨_, rfl, _, rfl, iLst (nI kp), iLst (nI sl), dpl_ints hD, dpl_ints (s1 _ _ hl), shaped_iLst _, shaped_iLst _, _, rfl, ?_⟩
      rw [eqv_iLst]
      refine ite2 (fun c => ?_) (fun c => ?_)
      · have c : kp = sl := nI_inj (of_decide_eq_true c)
        refine ⟨_, rfl, k l _ (sa.trans s1) ?_⟩
        rw [s1 _ _ hl, ← sure_done PK q hq fun i hi => ?_, hsl]
        rw [hsl] at hi ⊢
        rw [← c, ← hkp] at hi
        exact of_decide_eq_true (List.mem_filter.mp hi).2
      · have c : kp ≠ sl := fun z => by rw [z] at c; exact c (decide_eq_true rfl)
        have ek : kp = (List.range n).filter fun i => q i && decide ((sl.map (Pm i)).sum = s) := by
          rw [← hkp]
          calc sl.filter (fun i => decide ((sl.map (Pm i)).sum = s)) = List.filter (fun i => decide ((sl.map (Pm i)).sum = s)) ((List.range n).filter q) := by rw [hsl]
            _ = _ := by rw [List.filter_filter]; exact List.filter_congr fun i _ => Bool.and_comm _ _
        refine ⟨_, rfl, kp.length, ?_, sa.trans s1, D, _, _, rfl, by rw [← ek]; exact hD, fun i hi e => ?_, by rw [← ek]⟩
        · rw [← hkp] at c ⊢
          refine Nat.lt_of_le_of_ne (List.length_filter_le _ _) fun z => c ?_
          exact List.filter_eq_self.mpr (List.length_filter_eq_length_iff.mp z)
        · cases e1 : q i with
          | false => exact hq i hi e1
          | true =>
            rw [e1, Bool.true_and] at e
            refine sure_kept PK q hq hi fun z => ?_
            rw [hsl] at z
            rw [decide_eq_true z] at e; cases e
end
end My

set_option linter.all false
namespace My
open PySem PySem.Spec PyProof.Rows L2
abbrev sCa : Stmt := topS 15
structure CaOk (R : List (List Tri)) (W : Int) (len : Nat) : Prop where
  rk : Rg.Rk R.length (Rf R) W
  n0 : 0 < R.length
  n6 : R.length ≤ 6
  bW : W ≤ 2 ^ 36
  l8 : len ≤ 8
abbrev cP (wl : Bool) (R : List (List Tri)) (W : Int) (ring : List Int) : Nat → Nat → Int := Rg.gB wl (Rf R) W R.length 1 Rg.dl ring
abbrev cS (W : Int) (ring : List Int) : Int := 1 * W ^ ring.length
theorem pow36 {W : Int} (h0 : 0 < W) (h : W ≤ 2 ^ 36) : ∀ k : Nat, W ^ k ≤ 2 ^ (36 * k)
  | 0 => by simp
  | k + 1 => by
    have ih := pow36 h0 h k
    rw [Int.pow_succ, show 36 * (k + 1) = 36 * k + 36 by omega, Int.pow_add]
    exact Int.mul_le_mul ih h (by omega) (Int.le_of_lt (Int.pow_pos (by decide)))
section
variable {wl : Bool} {R : List (List Tri)} {W : Int} {ring : List Int}
theorem CaOk.pk {len : Nat} (h : CaOk R W len) : Rg.Pk R.length (cP wl R W ring) (cS W ring) := Rg.rg_pk (digs := ring) (r0 := 0) h.rk
theorem CaOk.s288 (h : CaOk R W ring.length) : cS W ring ≤ 2 ^ 288 := by
  have := pow36 h.rk.pos h.bW ring.length
  have l := h.l8
  have e : ((2 : Int)) ^ (36 * ring.length) ≤ 2 ^ 288 := by
    have := wp_mono (W := 2) (by decide) (36 * ring.length) (288 - 36 * ring.length)
    rwa [show 36 * ring.length + (288 - 36 * ring.length) = 288 by omega] at this
  show 1 * W ^ ring.length ≤ _
  omega
theorem CaOk.s0 {len : Nat} (h : CaOk R W len) : 0 < cS W ring := by
  show 0 < 1 * W ^ ring.length
  have := h.rk.wp ring.length
  omega
theorem CaOk.gb (h : CaOk R W ring.length) : GbOk R.length (Rf R) W R.length 1 Rg.dl ring.length 1 := by
  have n6 := h.n6
  have bW := h.bW
  have p := h.rk.pos
  have s : 1 * W ^ ring.length ≤ 2 ^ 288 := h.s288
  refine ⟨h.rk, h.n0, by omega, by omega, by omega, by decide, fun i _ j => by unfold Rg.dl; split <;> decide, ?_⟩
  have e : (2 : Int) ^ 288 < 2 ^ 7000 := by
    have := wp_mono (W := 2) (by decide) 289 6711
    rw [show (289 : Nat) + 6711 = 7000 from rfl] at this
    have e2 : (2 : Int) ^ 288 < 2 ^ 289 := by decide
    omega
  show 1 * W ^ ring.length < _
  omega
theorem CaOk.mle (h : CaOk R W ring.length) (a b : Nat) : (Rg.mP R.length (cP wl R W ring) (cS W ring) a b).natAbs ≤ 2 ^ 300 := by
  have pk := h.pk (wl := wl) (ring := ring)
  have s := h.s288
  have n0 := h.n0
  have s0 := h.s0 (ring := ring)
  have ol : ∀ a, (Rg.os R.length (cP wl R W ring) (cS W ring)).getD a 0 < R.length := fun a => by
    by_cases c : a < (Rg.os R.length (cP wl R W ring) (cS W ring)).length
    · exact (Rg.os_lt c).1
    · rw [List.getD_eq_getElem?_getD, List.getElem?_eq_none (by omega)]; exact n0
  have ple : ∀ i, i < R.length → ∀ j, j ≤ R.length → 0 ≤ cP wl R W ring i j ∧ cP wl R W ring i j ≤ cS W ring := fun i hi j hj => by
    refine ⟨pk.nn i hi j, Int.le_trans (Rg.s_mem (g := cP wl R W ring i) (l := List.range (R.length + 1)) (fun t _ => pk.nn i hi t) j (List.mem_range.mpr (by omega))) (pk.tot i hi)⟩
  have fin : ∀ x : Int, -(2 ^ 288) ≤ x → x ≤ 2 ^ 289 → x.natAbs ≤ 2 ^ 300 := fun x h1 h2 => by omega
  unfold Rg.mP
  split
  · obtain ⟨p1, p2⟩ := ple _ (ol a) _ (Nat.le_of_lt (ol b))
    refine fin _ ?_ ?_
    · split <;> omega
    · split <;> omega
  · split
    · have h1 := Rg.sub_le (g := cP wl R W ring ((Rg.os R.length (cP wl R W ring) (cS W ring)).getD a 0)) (fun i => !Rg.pwb R.length (cP wl R W ring) (cS W ring) i) (List.range R.length) fun t _ => pk.nn _ (ol a) t
      have h2 := pk.row (ol a)
      have h3 := Rg.s_nn (g := cP wl R W ring ((Rg.os R.length (cP wl R W ring) (cS W ring)).getD a 0)) (l := Rg.sr R.length (cP wl R W ring) (cS W ring)) fun t _ => pk.nn _ (ol a) t
      have h4 := (ple _ (ol a) R.length (Nat.le_refl _)).1
      refine fin _ (by omega) ?_
      unfold Rg.sr at h3 ⊢
      omega
    · decide
theorem os_len {n : Nat} {P : Nat → Nat → Int} {s : Int} : (Rg.os n P s).length ≤ n := by
  unfold Rg.os
  exact Nat.le_trans (List.length_filter_le _ _) (by rw [List.length_range]; exact Nat.le_refl _)
theorem CaOk.sys (h : CaOk R W ring.length) : (∀ k i j, k ≤ (Rg.os R.length (cP wl R W ring) (cS W ring)).length → (Dt.mS (Rg.mP R.length (cP wl R W ring) (cS W ring)) k i j).natAbs < 2 ^ 8000) ∧ ∀ k, k ≤ (Rg.os R.length (cP wl R W ring) (cS W ring)).length → (Dt.md (Rg.mP R.length (cP wl R W ring) (cS W ring)) k).natAbs < 2 ^ 8000 :=
  sys_8000 (a := 300) (fun i j => h.mle i j) (Nat.le_trans os_len h.n6) (by decide)
/-- chances are no greater than this -/
theorem CaOk.cle (h : CaOk R W ring.length) : (Rg.mPd R.length (cP wl R W ring) (cS W ring)).natAbs ≤ 2 ^ 2200 ∧ ∀ i, (Rg.chP R.length (cP wl R W ring) (cS W ring) i).natAbs ≤ 2 ^ 2200 := by
  have n6 := Nat.le_trans (os_len (n := R.length) (P := cP wl R W ring) (s := cS W ring)) h.n6
  have up : ∀ m, m ≤ 7 → 2 ^ (m * (300 + 3)) ≤ 2 ^ 2200 := fun m hm => Nat.pow_le_pow_right (by decide) (Nat.le_trans (Nat.mul_le_mul_right 303 hm) (by decide))
  have hd : (Rg.mPd R.length (cP wl R W ring) (cS W ring)).natAbs ≤ 2 ^ 2200 := Nat.le_trans (Dt.md_le (fun i j => h.mle i j) _) (Nat.le_trans (dbd_pow _ (by omega)) (up _ (by omega)))
  refine ⟨hd, fun i => ?_⟩
  unfold Rg.chP
  split
  · exact Nat.le_trans (Dt.mS_le (fun i j => h.mle i j) Nat.one_le_two_pow _ _ _) (Nat.le_trans (dbd_pow _ (by omega)) (up _ (by omega)))
  · exact hd
end
open Classical in
theorem os_notin {n : Nat} {P : Nat → Nat → Int} {s : Int} : (List.range n).filter (fun i : Nat => !decide ((i : Int) ∈ nI (Rg.sr n P s))) = Rg.os n P s := by
  unfold Rg.os
  refine List.filter_congr fun i hi => ?_
  have hi := List.mem_range.mp hi
  have m : ((i : Int) ∈ nI (Rg.sr n P s)) ↔ ¬ Rg.Pw n P s i := by
    rw [nI, List.mem_map]
    constructor
    · rintro ⟨j, hj, e⟩
      obtain rfl : j = i := by omega
      exact (Rg.mem_sr.mp hj).2
    · exact fun z => ⟨i, Rg.mem_sr.mpr ⟨hi, z⟩, rfl⟩
  unfold Rg.pwb
  by_cases c : Rg.Pw n P s i
  · have m' : ¬ ((i : Int) ∈ nI (Rg.sr n P s)) := fun z => m.mp z c
    rw [decide_eq_true c, decide_eq_false m']; rfl
  · have m' := m.mpr c
    rw [decide_eq_false c, decide_eq_true m']; rfl
theorem mP_last {n : Nat} {P : Nat → Nat → Int} {s : Int} (a : Nat) : Rg.mP n P s a (Rg.os n P s).length = P ((Rg.os n P s).getD a 0) n + ((Rg.sr n P s).map (P ((Rg.os n P s).getD a 0))).sum := by
  unfold Rg.mP
  rw [if_neg (Nat.lt_irrefl _), if_pos rfl]
theorem dl_line {n i : Nat} (h : i < n) : (List.range n).map (fun j => if i = j then (1 : Int) else 0) ++ [0] = linF Rg.dl (n + 1) i := by
  unfold linF
  rw [List.range_succ, List.map_append]
  congr 1
  show [(0 : Int)] = [Rg.dl i n]
  rw [show Rg.dl i n = 0 from if_neg (by omega)]
section
variable {P : Program} {w : World} {K : PySem.W.Frag} {mg : Str → Option Value} {base : Heap}
theorem scCa : FnScope ["whole", "rows", "ring", "with_less", "many", "number", "lines", "size", "sure", "others", "sums", "line", "row", "tops", "bottom", "chances", "top", "other"] ["whole", "rows", "ring", "with_less"] (defScope sCa) := ⟨rfl, rfl, rfl, by decide +kernel, rfl, by decide +kernel, by decide +kernel⟩
def spCa : Sp := fun vs H Q _ => ∃ (W : Int) (rr rg : Addr) (wl : Bool) (R : List (List Tri)) (ring : List Int), vs = [.int W, .ref rr, .ref rg, .bl wl] ∧ TriL H rr R ∧ H rg = some (.tup (ring.map V.int)) ∧ CaOk R W ring.length ∧
  ∀ (T L : Addr) (H' : Hp), Same H H' → H' T = some (.tup [.ref L, .int (Rg.mPd R.length (cP wl R W ring) (cS W ring))]) → H' L = some (.lst (((List.range R.length).map (Rg.chP R.length (cP wl R W ring) (cS W ring))).map V.int)) → Q (.ref T) H'
set_option maxHeartbeats 2000000 in
theorem ok_ca {f fG fU fS : Addr} {fd fdG fdU fdS : FuncData} (F0 : Fun K "_chances_around" "_chances_around" sCa f fd) (T : TgC mg)
    (FG : Fun K "_gone_back" "_gone_back" sGb fG fdG) (GG : FnOk P w K mg base CX0 1 fG fdG ["whole", "rows", "digits", "with_less", "lines", "size"] spGb) (bG : Binds K fdG ["whole", "rows", "digits", "with_less", "lines", "size"] []) (gG : mg "_gone_back" = some (.ref fG))
    (FU : Fun K "_sure_of" "_sure_of" sSure fU fdU) (GU : FnOk P w K mg base CX0 1 fU fdU ["lines", "size"] spSure) (bU : Binds K fdU ["lines", "size"] []) (gU : mg "_sure_of" = some (.ref fU))
    (FS : Fun K "solved" "solved" sSlv fS fdS) (GS : FnOk P w K mg base CX0 1 fS fdS ["rows"] spSlv) (bS : Binds K fdS ["rows"] []) (gS : mg "solved" = some (.ref fS)) : FnOk P w K mg base CX0 2 f fd ["whole", "rows", "ring", "with_less"] spCa := by
  refine F0.ok scCa (fun vs H Q E h => ?_) (fun cdv A outer s0 H vs Q E hr h => ?_)
  · obtain ⟨W, rr, rg, wl, R, ring, rfl, _⟩ := h
    rfl
  · obtain ⟨W, rr, rg, wl, R, ring, rfl, hR, hrg, C, k⟩ := h
    have hr1 : Room 1 _ := hr.mono (by decide)
    refine ⟨_, (pss_cons (ps_set (i := 4) scCa.nd rfl (Or.inr rfl) (pe_callB call_len_seq (by rfl) T.len PySem.boot_len (pa_cons (pv 1) pa_nil)))
      (pss_cons (ps_setLc (i := 6) (own := [("number", 5)]) (g := gName 5) (tt := tYes) rfl scCa.nd rfl (by rfl) (sw_true (by rfl) (by rfl) (by rfl) (by rfl)) (pi_range1 (by rfl) T.range (pa_cons (pv 4) pa_nil)) (blkOk_by (N := ["whole", "rows", "ring", "with_less", "many", "number", "lines", "size", "sure", "others", "sums", "line", "row", "tops", "bottom", "chances", "top", "other"]) (sc := defScope sCa) (by decide +kernel)) (fun _ _ _ _ _ => (pg_name (i := 5) scCa.nd rfl (Or.inr rfl))) (fun _ _ _ _ _ => pts_nil) (fun _ _ _ _ _ => (pe_op op_cat (pe_lc (own := [("other", 17)]) (g := gName 17) (tt := tYes) rfl scCa.nd (pi_range1 (by rfl) T.range (pa_cons (pv 4) pa_nil)) (blkOk_by (N := ["whole", "rows", "ring", "with_less", "many", "number", "lines", "size", "sure", "others", "sums", "line", "row", "tops", "bottom", "chances", "top", "other"]) (sc := ({ kind := PySem.ScopeKind.function, names := [(".0", PySem.NameKind.local), ("number", PySem.NameKind.cell), ("range", PySem.NameKind.globalImplicit), ("many", PySem.NameKind.cell)], isGenerator := false, isCoroutine := false, more := [] } : PySem.Scope)) (by decide +kernel)) (fun _ _ _ _ _ => (pg_name (i := 17) scCa.nd rfl (Or.inl rfl))) (fun _ _ _ _ _ => pts_nil) (fun _ _ _ _ _ => (pe_callTy call_int1 (by rfl) T.int boot_int (pa_cons (pe_cmpR op_eq (pv 5) (pv 17) (nomark _)) pa_nil)))) (pe_lst (pa_cons pe_int pa_nil)))))
      (pss_cons (ps_asg (pe_call GG hr1 (by rfl) gG FG.kp bG .nil pass0 (pa_cons (pv 0) (pa_cons (pv 1) (pa_cons (pv 2) (pa_cons (pv 3) (pa_cons (pv 6) (pa_cons pe_int pa_nil))))))) (pg_tup (by rfl) (pgs_cons (pg_name (i := 6) scCa.nd rfl (Or.inl rfl)) (pgs_cons (pg_name (i := 7) scCa.nd rfl (Or.inr rfl)) pgs_nil))))
      (pss_cons (ps_set (i := 8) scCa.nd rfl (Or.inr rfl) (pe_call GU hr1 (by rfl) gU FU.kp bU .nil pass0 (pa_cons (pv 6) (pa_cons (pv 7) pa_nil))))
      (pss_cons (ps_setLc (i := 9) (own := [("number", 5)]) (g := gName 5) rfl scCa.nd rfl (by rfl) (sw_true (by rfl) (by rfl) (by rfl) (by rfl)) (pi_range1 (by rfl) T.range (pa_cons (pv 4) pa_nil)) (blkOk_by (N := ["whole", "rows", "ring", "with_less", "many", "number", "lines", "size", "sure", "others", "sums", "line", "row", "tops", "bottom", "chances", "top", "other"]) (sc := defScope sCa) (by decide +kernel)) (fun _ _ _ _ _ => (pg_name (i := 5) scCa.nd rfl (Or.inl rfl))) (fun _ _ _ _ _ => (pts_one (pt_cmpR (show OpR _ _ (rIn K true) from op_notIn_seq) (pv 5) (pv 8) (by rfl)))) (fun _ _ _ _ _ => (pv 5)))
      (pss_cons (ps_set (i := 10) scCa.nd rfl (Or.inl rfl) (pe_lst pa_nil))
      (pss_cons (ps_for PassesOwn.never rfl (pi_list (pv 9)) (pg_name (i := 5) scCa.nd rfl (Or.inr rfl)) (pss_cons (ps_set (i := 11) scCa.nd rfl (Or.inr rfl) (pe_ix ix_list (pv 6) (pv 5) (fun _ _ => rfl)))
      (pss_cons (ps_setLc (i := 12) (own := [("other", 17)]) (g := gName 17) (tt := tYes) rfl scCa.nd rfl (by rfl) (sw_true (by rfl) (by rfl) (by rfl) (by rfl)) (pi_list (pv 9)) (blkOk_by (N := ["whole", "rows", "ring", "with_less", "many", "number", "lines", "size", "sure", "others", "sums", "line", "row", "tops", "bottom", "chances", "top", "other"]) (sc := defScope sCa) (by decide +kernel)) (fun _ _ _ _ _ => (pg_name (i := 17) scCa.nd rfl (Or.inl rfl))) (fun _ _ _ _ _ => pts_nil) (fun _ _ _ _ _ => (pe_op op_sub (pe_op (show OpR _ _ (rI CMulW fun i j => .int (i * j)) from op_mulW) (pv 7) (pe_callTy call_int1 (by rfl) T.int boot_int (pa_cons (pe_cmpR op_eq (pv 5) (pv 17) (nomark _)) pa_nil))) (pe_ix (show IxR _ (rIxL K) from ix_list) (pv 11) (pv 17) (fun _ _ => rfl)))))
      (pss_one (ps_expr (pe_bm PySem.F.plainAttrs_list PySem.F.slot_list_append PySem.F.type_list_append mt_append (pv 10) (pa_cons (pe_op op_cat (pv 12) (pe_lst (pa_cons (pe_op op_add (pe_ix ix_list (pv 11) (pe_un un_neg pe_int) (fun _ _ => rfl)) (pe_callB (cr_sum rfl) (by rfl) T.sum boot_sum (pa_cons (pe_lc (own := [("other", 17)]) (g := gName 17) (tt := tYes) rfl scCa.nd (pi_list (pv 8)) (blkOk_by (N := ["whole", "rows", "ring", "with_less", "many", "number", "lines", "size", "sure", "others", "sums", "line", "row", "tops", "bottom", "chances", "top", "other"]) (sc := defScope sCa) (by decide +kernel)) (fun _ _ _ _ _ => (pg_name (i := 17) scCa.nd rfl (Or.inl rfl))) (fun _ _ _ _ _ => pts_nil) (fun _ _ _ _ _ => (pe_ix (show IxR _ (rIxL K) from ix_list) (pv 11) (pv 17) (fun _ _ => rfl)))) pa_nil))) pa_nil))) pa_nil)))))))
      (pss_cons (ps_asg (pe_call GS hr1 (by rfl) gS FS.kp bS .nil pass0 (pa_cons (pv 10) pa_nil)) (pg_tup (by rfl) (pgs_cons (pg_name (i := 13) scCa.nd rfl (Or.inl rfl)) (pgs_cons (pg_name (i := 14) scCa.nd rfl (Or.inl rfl)) pgs_nil))))
      (pss_cons (ps_set (i := 15) scCa.nd rfl (Or.inl rfl) (pe_op op_rep (pe_lst (pa_cons (pv 14) pa_nil)) (pv 4)))
      (pss_cons (ps_for PassesOwn.never rfl (pi_zip (by rfl) T.zip (pa_cons (pv 9) (pa_cons (pv 13) pa_nil))) (pg_tup (by rfl) (pgs_cons (pg_name (i := 5) scCa.nd rfl (Or.inr rfl)) (pgs_cons (pg_name (i := 16) scCa.nd rfl (Or.inl rfl)) pgs_nil))) (pss_one (ps_asg (pv 16) (pg_sub (pv 15) (pv 5) set_list))))
      (pss_one (ps_ret (pe_tup (pa_cons (pv 15) (pa_cons (pv 14) pa_nil))))))))))))))), ?_⟩
    obtain ⟨qs, h1, h2, h3⟩ := hR.ex
    have n6 := C.n6
    refine ⟨_, rfl, rr, _, rfl, .inl (SqL.of h1), ?_⟩
    rw [show (qs.map V.ref).length = R.length by rw [List.length_map, h2]]
    refine ⟨_, rfl, R.length, rfl, by omega, by omega, fun D nD => ?_⟩
    rw [Int.toNat_natCast]
    refine lc_made (walk_range (lo := 0) (n := R.length)) (linF Rg.dl (R.length + 1)) nD (by rw [sizeLine_eq]; omega) (fun _ _ => trivial) (fun i x Ha Hb hi sa yy Q2 R2 q2 => ?_) fun Ha sa hL => ?_
    · obtain ⟨rfl, rfl⟩ := yy
      dsimp only
      rw [show V.int (0 + (i : Int)) = V.int (i : Nat) by rw [Int.zero_add]]
      refine ⟨rfl, tyes ?_⟩
      refine ⟨_, rfl, R.length, rfl, by omega, by omega, fun D2 nD2 => ?_⟩
      rw [Int.toNat_natCast]
      refine lc_gen (walk_range (lo := 0) (n := R.length)) (fun _ => true) (fun j => .int (if i = j then 1 else 0)) nD2 (by rw [sizeLine_eq]; omega) (fun _ _ => trivial) (fun j x Hc Hd hj sc yy Q3 R3 q3 r3 => ?_) fun Hc sc hD2 => ?_
      · obtain ⟨rfl, rfl⟩ := yy
        dsimp only
        rw [show V.int (0 + (j : Int)) = V.int (j : Nat) by rw [Int.zero_add]]
        refine ⟨rfl, tyes ?_⟩
        refine ⟨_, rfl, _, rfl, rfl, .inr ⟨_, rfl, ?_⟩⟩
        have e : (if decide (V.int (i : Nat) = V.int (j : Nat)) = true then (1 : Int) else 0) = if i = j then 1 else 0 := by
          by_cases c : i = j
          · rw [c]; simp
          · rw [if_neg c, if_neg]
            rw [decide_eq_true_iff]
            intro z
            injection z with z
            omega
        rw [e]
        exact q3 rfl _ (Same.refl _)
      · rw [range_all _ (fun _ => true), show (List.range R.length).map (fun j => V.int (if i = j then 1 else 0)) = ((List.range R.length).map fun j => if i = j then (1 : Int) else 0).map V.int by rw [List.map_map]; rfl] at hD2
        refine ⟨by show 1 ≤ sizeLine; rw [sizeLine_eq]; decide, fun p1 n1 => ?_⟩
        have s1 := same_upd (o := .lst [.int 0]) n1
        refine ⟨D2, p1, _, _, rfl, rfl, s1 _ _ hD2, upd_same, by rw [List.length_map, List.length_map, List.length_range, sizeLine_eq]; show R.length + 1 ≤ _; omega, fun p2 n2 => ?_⟩
        have s2 := (sc.trans s1)
        refine q2 p2 _ (s2.trans (same_upd n2)) (s2.free n2) ?_
        rw [upd_same, ← dl_line hi, List.map_append]; rfl
    · refine ⟨_, rfl, _, rfl, _, rfl, _, rfl, _, rfl, W, 1, rr, rg, D, wl, R, ring, R.length, Rg.dl, 1, rfl, hR.same sa, sa _ _ hrg, hL, C.gb, fun T1 L1 H1 s1 g1 g2 => ?_⟩
      refine ⟨T1, _, rfl, SqT.of g1, rfl, _, _, rfl, _, _, rfl, rfl, ?_⟩
      refine ⟨_, rfl, _, rfl, L1, cS W ring, R.length, cP wl R W ring, rfl, by omega, g2, C.pk, fun L2 H2 s2 g3 => ?_⟩
      have s02 := (sa.trans s1).trans s2
      have hL1 := g2.same s2
      obtain ⟨ss, hss⟩ : ∃ ss, Rg.sr R.length (cP wl R W ring) (cS W ring) = ss := ⟨_, rfl⟩
      rw [hss] at g3
      refine ⟨_, rfl, R.length, rfl, by omega, by omega, fun D3 nD3 => ?_⟩
      rw [Int.toNat_natCast]
      obtain ⟨oo, hoo⟩ : ∃ oo, Rg.os R.length (cP wl R W ring) (cS W ring) = oo := ⟨_, rfl⟩
      have o8 : oo.length ≤ R.length := by rw [← hoo]; exact os_len
      have on : ∀ i ∈ oo, i < R.length := fun i hi => by rw [← hoo] at hi; exact (Rg.mem_os.mp hi).1
      have sn : ∀ i ∈ ss, i < R.length := fun i hi => by rw [← hss] at hi; exact (Rg.mem_sr.mp hi).1
      have s8 : ss.length ≤ R.length := by
        rw [← hss]; unfold Rg.sr
        exact Nat.le_trans (List.length_filter_le _ _) (by rw [List.length_range]; exact Nat.le_refl _)
      refine lc_gen (walk_range (lo := 0) (n := R.length)) (fun i => !decide ((i : Int) ∈ nI ss)) (fun i => .int ((i : Nat) : Int)) nD3 (by rw [sizeLine_eq]; omega) (fun _ _ => trivial) (fun i x Ha Hb hi sb yy Q2 R2 q2 r2 => ?_) fun H3 s3 hD3 => ?_
      · obtain ⟨rfl, rfl⟩ := yy
        dsimp only
        rw [show V.int (0 + (i : Int)) = V.int (i : Nat) by rw [Int.zero_add]]
        refine ⟨rfl, ?_⟩
        refine ⟨_, rfl, _, rfl, L2, _, rfl, .inl (SqL.of (sb _ _ g3)), rfl, flat_ints _, _, rfl, ?_⟩
        rw [inV_int]
        by_cases c : (i : Int) ∈ nI ss
        · dsimp only
          refine ifF (by rw [decide_eq_true c]; rfl) (r2 (by rw [decide_eq_true c]; rfl) _ (Same.refl _))
        · dsimp only
          refine ifT (by rw [decide_eq_false c]; rfl) ⟨_, rfl, q2 (by rw [decide_eq_false c]; rfl) _ (Same.refl _)⟩
      · have eo : (List.range R.length).filter (fun i : Nat => !decide ((i : Int) ∈ nI ss)) = oo := by
          rw [← hoo, ← hss]; exact os_notin
        rw [eo, show oo.map (fun i : Nat => V.int ((i : Nat) : Int)) = (nI oo).map V.int by rw [nI, List.map_map]; rfl] at hD3
        have s03 := s02.trans s3
        have hL3 := hL1.same s3
        have hS3 := s3 _ _ g3
        refine ⟨by show 0 ≤ sizeLine; exact Nat.zero_le _, fun D4 nD4 => ?_⟩
        have s4 := same_upd (o := .lst []) nD4
        refine ⟨_, rfl, D3, rfl, ⟨_, SqL.of (s4 _ _ hD3)⟩, ?_⟩
        obtain ⟨ls, l1, l2, l3⟩ := hL3.ex
        have pk := C.pk (wl := wl) (ring := ring)
        have s288 := C.s288
        have s00 := C.s0 (ring := ring)
        have goA : ∀ {a : Nat} {o : Nat}, oo[a]? = some o → (Rg.os R.length (cP wl R W ring) (cS W ring)).getD a 0 = o := fun h => by rw [hoo]; exact getD_at h
        refine for_it (walk_list (K := K) (a := D3) (xs := (nI oo).map V.int)) (fun i σ Ho => Same H3 Ho ∧ ∃ (ds : List Addr) (y5 y11 y12 : Option V), σ = [some (.int W), some (.ref rr), some (.ref rg), some (.bl wl), some (.int (R.length : Nat)), y5, some (.ref L1), some (.int (cS W ring)), some (.ref L2), some (.ref D3), some (.ref D4), y11, y12, none, none, none, none, none] ∧ Ho D4 = some (.lst (ds.map V.ref)) ∧ ds.length = i ∧ ∀ (j : Nat) (q : Addr), ds[j]? = some q → q ≠ D4 ∧ Ho q = some (.lst (((List.range (oo.length + 1)).map (Rg.mP R.length (cP wl R W ring) (cS W ring) j)).map V.int))) ?_ ?_ ?_ ?_
        · exact ⟨s4, [], _, _, _, rfl, upd_same, rfl, fun j q z => by simp at z⟩
        · exact fun i σ Ho _ z => SqL.of (z.1 _ _ hD3)
        · rintro i x σ Ho0 Ho hi ⟨sa4, ds, y5, y11, y12, rfl, hD, ld, hds⟩ ⟨rfl, hx⟩
          obtain ⟨o, ho, rfl⟩ := nI_at hx
          have io := (List.getElem?_eq_some_iff.mp ho).1
          have oR := on o (List.mem_of_getElem? ho)
          obtain ⟨lq, hlq⟩ : ∃ q, ls[o]? = some q := ⟨ls[o]'(by omega), List.getElem?_eq_getElem _⟩
          have hlq1 := sa4 _ _ (l3 _ _ hlq)
          refine ⟨_, rfl, _, rfl, L1, _, _, _, rfl, rfl, SqL.of (sa4 _ _ l1), atI_nat (by rw [List.getElem?_map, hlq]; rfl), ?_⟩
          refine ⟨_, rfl, D3, rfl, ⟨_, SqL.of (sa4 _ _ hD3)⟩, fun D5 nD5 => ?_⟩
          refine lc_gen (walk_list (K := K) (a := D3) (xs := (nI oo).map V.int)) (fun _ => true) (fun b => .int (Rg.mP R.length (cP wl R W ring) (cS W ring) i b)) nD5 (by rw [List.length_map, List.length_map, sizeLine_eq]; omega) (fun Hc sc => SqL.of (sc _ _ (sa4 _ _ hD3))) (fun b x Hc Hd hb sc yy Q3 R3 q3 r3 => ?_) fun H5 s5 hD5 => ?_
          · obtain ⟨rfl, hx⟩ := yy
            obtain ⟨o2, ho2, rfl⟩ := nI_at hx
            have bo := (List.getElem?_eq_some_iff.mp ho2).1
            have o2R := on o2 (List.mem_of_getElem? ho2)
            refine ⟨rfl, tyes ?_⟩
            have ev : Rg.mP R.length (cP wl R W ring) (cS W ring) i b = cS W ring * (if decide (V.int (o : Nat) = V.int (o2 : Nat)) = true then 1 else 0) - cP wl R W ring o o2 := by
              rw [Rg.mP_at (by rw [hoo]; exact bo), goA ho, goA ho2]
              congr 1
              by_cases c : o = o2
              · rw [c]; simp
              · rw [if_neg c, if_neg, Int.mul_zero]
                rw [decide_eq_true_iff]
                intro z
                injection z with z
                omega
            rw [ev] at q3
            refine ⟨_, rfl, _, rfl, _, rfl, rfl, .inr ⟨_, rfl, ?_⟩⟩
            refine ⟨_, _, rfl, rfl, wide_mul (a := 300) (b := 2) (by omega) (by split <;> decide) (by decide) (by decide) (by decide), _, rfl, _, rfl, lq, _, _, _, rfl, rfl, SqL.of (sc _ _ hlq1), atI_nat (lin_at (show o2 < R.length + 1 by omega)), _, _, rfl, rfl, ?_⟩
            exact q3 rfl _ (Same.refl _)
          · rw [range_all _ (fun _ => true), List.length_map, List.length_map, show (List.range oo.length).map (fun b => V.int (Rg.mP R.length (cP wl R W ring) (cS W ring) i b)) = ((List.range oo.length).map (Rg.mP R.length (cP wl R W ring) (cS W ring) i)).map V.int by rw [List.map_map]; rfl] at hD5
            have hS5 := s5 _ _ (sa4 _ _ hS3)
            refine ⟨_, rfl, .inl ⟨rfl, _, SqL.of (s5 _ _ hD)⟩, ?_⟩
            refine ⟨_, rfl, _, rfl, _, rfl, lq, _, _, _, rfl, rfl, SqL.of (s5 _ _ hlq1), atI_m1, ?_⟩
            refine ⟨_, rfl, L2, rfl, ⟨_, SqL.of hS5⟩, fun D6 nD6 => ?_⟩
            refine lc_gen (walk_list (K := K) (a := L2) (xs := (nI ss).map V.int)) (fun _ => true) (fun b => .int (cP wl R W ring o (ss.getD b 0))) nD6 (by rw [List.length_map, List.length_map, sizeLine_eq]; omega) (fun Hc sc => SqL.of (sc _ _ hS5)) (fun b x Hc Hd hb sc yy Q3 R3 q3 r3 => ?_) fun H6 s6 hD6 => ?_
            · obtain ⟨rfl, hx⟩ := yy
              obtain ⟨o2, ho2, rfl⟩ := nI_at hx
              have o2R := sn o2 (List.mem_of_getElem? ho2)
              rw [getD_at ho2] at q3
              refine ⟨rfl, tyes ?_⟩
              exact ⟨_, rfl, _, rfl, lq, _, _, _, rfl, rfl, SqL.of (sc _ _ (s5 _ _ hlq1)), atI_nat (lin_at (show o2 < R.length + 1 by omega)), q3 rfl _ (Same.refl _)⟩
            · rw [range_all _ (fun _ => true), List.length_map, List.length_map, range_getD (fun j => V.int (cP wl R W ring o j)) 0 ss, show ss.map (fun j => V.int (cP wl R W ring o j)) = (ss.map (cP wl R W ring o)).map V.int by rw [List.map_map]; rfl] at hD6
              refine ⟨D6, _, rfl, SqL.of hD6, _, _, rfl, rfl, by show 1 ≤ sizeLine; rw [sizeLine_eq]; decide, fun p1 n1 => ?_⟩
              have ev : cP wl R W ring o R.length + (ss.map (cP wl R W ring o)).sum = Rg.mP R.length (cP wl R W ring) (cS W ring) i oo.length := by
                have := mP_last (n := R.length) (P := cP wl R W ring) (s := cS W ring) i
                rw [goA ho, hss, hoo] at this
                exact this.symm
              have s56 := s5.trans s6
              generalize hq : HO.lst [V.int _] = lv at n1 ⊢
              have s7 := same_upd (o := lv) n1
              refine ⟨D5, p1, _, _, rfl, rfl, s7 _ _ (s6 _ _ hD5), by rw [upd_same, ← hq], by rw [List.length_map, List.length_map, List.length_range, sizeLine_eq]; show oo.length + 1 ≤ _; omega, fun p2 n2 => ?_⟩
              have s57 := s56.trans s7
              generalize upd H6 p1 lv = H7 at n2 s57 ⊢
              have hD7 := s57 _ _ hD
              have p2D : p2 ≠ D4 := fun w => by rw [w, hD7] at n2; cases n2
              refine ⟨D4, _, _, rfl, rfl, by rw [upd_ne (Ne.symm p2D)]; exact hD7, by rw [List.length_map, ld, sizeLine_eq]; omega, ?_⟩
              have n2' : Ho p2 = none := s57.free n2
              refine ⟨fun c o e => ?_, ds ++ [p2], _, _, _, rfl, by rw [upd_same, List.map_append]; rfl, by rw [List.length_append, ld]; rfl, fun j q hq2 => ?_⟩
              · rw [upd_ne (fun w => by rw [w, nD4] at e; cases e), upd_ne (fun w => by rw [w] at e; rw [sa4 _ _ e] at n2'; cases n2')]
                exact s57 _ _ (sa4 _ _ e)
              · rcases snoc_at hq2 with ⟨c, g⟩ | ⟨c, rfl⟩
                · obtain ⟨w1, w2⟩ := hds j q g
                  refine ⟨w1, ?_⟩
                  rw [upd_ne w1, upd_ne (fun w => by rw [w] at w2; rw [w2] at n2'; cases n2')]
                  exact s57 _ _ w2
                · refine ⟨p2D, ?_⟩
                  rw [upd_ne p2D, upd_same, c, ld, List.range_succ, List.map_append, List.map_append]
                  exact congrArg (fun z => some (HO.lst (((List.range oo.length).map (Rg.mP R.length (cP wl R W ring) (cS W ring) i)).map V.int ++ [V.int z]))) ev
        · rintro σ Ho ⟨sa4, ds, y5, y11, y12, rfl, hD, ld, hds⟩
          rw [List.length_map, List.length_map] at ld
          have hk : (Rg.os R.length (cP wl R W ring) (cS W ring)).length = oo.length := by rw [hoo]
          obtain ⟨b1, b2⟩ := C.sys (wl := wl) (ring := ring)
          refine ⟨_, rfl, D4, (Rg.os R.length (cP wl R W ring) (cS W ring)).length, Rg.mP R.length (cP wl R W ring) (cS W ring), rfl, by omega, Rg.mP_zw pk, ⟨⟨ds, hD, by rw [hk]; exact ld, fun i q g => by rw [hk]; exact (hds i q g).2⟩⟩, b1, b2, fun T2 Lt H6 s6 g4 g5 => ?_⟩
          refine ⟨T2, _, rfl, SqT.of g4, rfl, _, _, rfl, _, _, rfl, rfl, ?_⟩
          have s06 := (s03.trans sa4).trans s6
          have hD6 := s6 _ _ (sa4 _ _ hD3)
          have pd : Dt.md (Rg.mP R.length (cP wl R W ring) (cS W ring)) (Rg.os R.length (cP wl R W ring) (cS W ring)).length = Rg.mPd R.length (cP wl R W ring) (cS W ring) := rfl
          rw [pd]
          generalize hbt : Rg.mPd R.length (cP wl R W ring) (cS W ring) = bt
          have k' := fun T L H' a b => k T L H' a (by rw [hbt]; exact b)
          refine ⟨_, rfl, by show 1 ≤ sizeLine; rw [sizeLine_eq]; decide, fun p1 n1 => ?_⟩
          have s7 := same_upd (o := .lst [.int bt]) n1
          refine ⟨_, rfl, p1, _, _, rfl, rfl, upd_same, by omega, by omega, by rw [sizeLine_eq]; simp; omega, fun p2 n2 => ?_⟩
          rw [show ((R.length : Int)).toNat = R.length from Int.toNat_natCast _]
          have n2' : H6 p2 = none := s7.free n2
          have fl : (List.replicate R.length [V.int bt]).flatten = ((List.range R.length).map fun i => if i ∈ oo.take 0 then Rg.chP R.length (cP wl R W ring) (cS W ring) i else bt).map V.int := by
            have : ((List.range R.length).map fun i => if i ∈ oo.take 0 then Rg.chP R.length (cP wl R W ring) (cS W ring) i else bt) = List.replicate R.length bt := List.ext_getElem (by simp) fun i _ _ => by simp
            rw [this, List.map_replicate]
            induction R.length with
            | zero => rfl
            | succ m ih => rw [List.replicate_succ, List.flatten_cons, ih]; rfl
          rw [fl]
          have s8 := s7.trans (same_upd (o := .lst (((List.range R.length).map fun i => if i ∈ oo.take 0 then Rg.chP R.length (cP wl R W ring) (cS W ring) i else bt).map V.int)) n2)
          have hp2 := upd_same (H := upd H6 p1 (.lst [.int bt])) (a := p2) (o := .lst (((List.range R.length).map fun i => if i ∈ oo.take 0 then Rg.chP R.length (cP wl R W ring) (cS W ring) i else bt).map V.int))
          generalize upd (upd H6 p1 (.lst [.int bt])) p2 (.lst (((List.range R.length).map fun i => if i ∈ oo.take 0 then Rg.chP R.length (cP wl R W ring) (cS W ring) i else bt).map V.int)) = H8 at s8 hp2 ⊢
          have g5 : H6 Lt = some (.lst (((List.range oo.length).map fun t => Dt.mS (Rg.mP R.length (cP wl R W ring) (cS W ring)) oo.length t oo.length).map V.int)) := by rw [← hk]; exact g5
          refine ⟨_, rfl, _, rfl, D3, Lt, _, _, rfl, SqL.of (s8 _ _ hD6), SqL.of (s8 _ _ g5), ?_⟩
          have lz : oo.length = min ((nI oo).map V.int).length (((List.range oo.length).map fun t => Dt.mS (Rg.mP R.length (cP wl R W ring) (cS W ring)) oo.length t oo.length).map V.int).length := by
            rw [List.length_map, List.length_map, List.length_map, List.length_map, List.length_range, Nat.min_self]
          refine for_it (walk_zip (K := K) (n := oo.length) lz) (fun i σ Hz => Same H6 Hz ∧ ∃ (y5 y11 y12 y16 : Option V), σ = [some (.int W), some (.ref rr), some (.ref rg), some (.bl wl), some (.int (R.length : Nat)), y5, some (.ref L1), some (.int (cS W ring)), some (.ref L2), some (.ref D3), some (.ref D4), y11, y12, some (.ref Lt), some (.int bt), some (.ref p2), y16, none] ∧ Hz p2 = some (.lst (((List.range R.length).map fun j => if j ∈ oo.take i then Rg.chP R.length (cP wl R W ring) (cS W ring) j else bt).map V.int))) ?_ ?_ ?_ ?_
          · exact ⟨s8, _, _, _, _, rfl, hp2⟩
          · exact fun i σ Hz _ z => ⟨SqL.of (z.1 _ _ hD6), SqL.of (z.1 _ _ g5)⟩
          · rintro i x σ Hz0 Hz hi ⟨sz, y5, y11, y12, y16, rfl, hp⟩ ⟨T3, v1, v2, rfl, nT, rfl, e1, e2⟩
            replace e1 : ((nI oo).map V.int)[i]? = some v1 := e1
            replace e2 : (((List.range oo.length).map fun t => Dt.mS (Rg.mP R.length (cP wl R W ring) (cS W ring)) oo.length t oo.length).map V.int)[i]? = some v2 := e2
            obtain ⟨o, ho, rfl⟩ := nI_at e1
            rw [List.getElem?_map, List.getElem?_map, List.getElem?_range hi] at e2
            have oR := on o (List.mem_of_getElem? ho)
            have ec : Dt.mS (Rg.mP R.length (cP wl R W ring) (cS W ring)) oo.length i oo.length = Rg.chP R.length (cP wl R W ring) (cS W ring) o := by
              have := Rg.ch_os (n := R.length) (P := cP wl R W ring) (s := cS W ring) (a := i) (by rw [hk]; exact hi)
              rw [goA ho, hk] at this
              exact this.symm
            obtain rfl : V.int (Rg.chP R.length (cP wl R W ring) (cS W ring) o) = v2 := by rw [← Option.some.inj e2]; exact congrArg V.int ec.symm
            have p2T : p2 ≠ T3 := fun w => by rw [← w, hp] at nT; cases nT
            refine ⟨T3, _, rfl, SqT.of upd_same, rfl, _, _, rfl, _, _, rfl, rfl, ?_⟩
            refine ⟨_, rfl, _, rfl, _, rfl, p2, _, _, o, rfl, rfl, by rw [upd_ne p2T]; exact hp, ixN_nat (by rw [List.length_map, List.length_map, List.length_range]; exact oR), ?_⟩
            have nT6 : H6 T3 = none := sz.free nT
            refine ⟨fun c u e => ?_, _, _, _, _, rfl, ?_⟩
            · rw [upd_ne (fun w => by rw [w, n2'] at e; cases e), upd_ne (fun w => by rw [w, nT6] at e; cases e)]
              exact sz _ _ e
            · rw [upd_same, ← List.map_set]
              refine congrArg (fun l => some (HO.lst (l.map V.int))) (List.ext_getElem? fun u => ?_)
              have tk : oo.take (i + 1) = oo.take i ++ [o] := by rw [List.take_add_one, ho]; rfl
              rw [tk]
              by_cases hu : u < R.length
              · rw [List.getElem?_map, List.getElem?_range hu]
                by_cases uo : u = o
                · subst uo
                  rw [List.getElem?_set_self (by simpa using hu)]
                  show some _ = some (if u ∈ oo.take i ++ [u] then Rg.chP R.length (cP wl R W ring) (cS W ring) u else bt)
                  rw [if_pos (List.mem_append_right _ List.mem_cons_self)]
                · rw [List.getElem?_set_ne (Ne.symm uo), List.getElem?_map, List.getElem?_range hu]
                  show some (if u ∈ oo.take i then Rg.chP R.length (cP wl R W ring) (cS W ring) u else bt) = some (if u ∈ oo.take i ++ [o] then Rg.chP R.length (cP wl R W ring) (cS W ring) u else bt)
                  have : (u ∈ oo.take i ++ [o]) ↔ u ∈ oo.take i := by simp [uo]
                  by_cases c : u ∈ oo.take i
                  · rw [if_pos c, if_pos (this.mpr c)]
                  · rw [if_neg c, if_neg fun z => c (this.mp z)]
              · rw [List.getElem?_eq_none (by simp; omega), List.getElem?_eq_none (by simp; omega)]
          · rintro σ Hz ⟨sz, y5, y11, y12, y16, rfl, hp⟩
            refine ⟨_, rfl, _, rfl, by show 2 ≤ sizeLine; rw [sizeLine_eq]; decide, fun q nq => k' q p2 _ ((s06.trans sz).trans (same_upd nq)) upd_same ?_⟩
            rw [same_upd nq _ _ hp]
            refine congrArg (fun l => some (HO.lst (l.map V.int))) (List.map_congr_left fun i hi => ?_)
            rw [List.take_length]
            by_cases c : i ∈ oo
            · rw [if_pos c]
            · rw [if_neg c, ← hbt]
              refine (Rg.ch_sr fun z => c ?_).symm
              rw [← hoo]
              exact Rg.mem_os.mpr ⟨List.mem_range.mp hi, z⟩
end
end My

set_option linter.all false
namespace My
open PySem PySem.Spec PyProof.Rows L2
abbrev sCal : Stmt := topS 14
section
variable {b : Int} {ns : List Str} {Rw : List (List Ent)} {B : Nat}
theorem BkOk.rk (h : BkOk b ns Rw B) : Rg.Rk (rowsR ns Rw).length (Rf (rowsR ns Rw)) (wholeS Rw : Nat) := by
  have w := (whole_le h.ent).1
  have at' : ∀ i, i < (rowsR ns Rw).length → Rf (rowsR ns Rw) i ∈ rowsR ns Rw := fun i hi => by rw [show Rf (rowsR ns Rw) i = (rowsR ns Rw)[i] from getD_at (List.getElem?_eq_getElem hi)]; exact List.getElem_mem hi
  refine ⟨fun i hi e he => ?_, fun i hi e he => h.rows.num _ (at' i hi) e he, fun i hi => h.rows.tot _ (at' i hi), by omega⟩
  obtain ⟨e0, g1, g0⟩ := List.mem_map.mp (at' i hi)
  rw [← g0] at he
  obtain ⟨e1, g2, rfl⟩ := List.mem_map.mp he
  obtain ⟨_, _, _, p1, _, p2, _⟩ := (h.ent.row e0 g1).2 e1 g2
  have dv := whole_dvd g1 g2
  refine Int.mul_pos p1 ?_
  have pm := part_mul dv p2
  rcases Int.lt_trichotomy ((wholeS Rw : Int) / e1.2.2.2) 0 with c | c | c
  · have := Int.mul_neg_of_pos_of_neg p2 c; omega
  · rw [c, Int.mul_zero] at pm; omega
  · exact c
theorem BkOk.rn (h : BkOk b ns Rw B) {x : Str} (hx : x ∈ ns) : 0 < (rowsR ns Rw).length ∧ ns.idxOf x < (rowsR ns Rw).length := by
  have := idx_lt hx
  rw [h.nlen, ← rowsR_len (ns := ns)] at this
  exact ⟨by omega, this⟩
theorem BkOk.ca (h : BkOk b ns Rw B) {x : Str} (hx : x ∈ ns) {l : Nat} (l8 : l ≤ 8) : CaOk (rowsR ns Rw) (wholeS Rw : Nat) l := by
  have w := whole_le h.ent
  have := h.B36
  exact ⟨h.rk, (h.rn hx).1, by rw [rowsR_len]; exact h.len, by omega, l8⟩
end
theorem pT_eq {wl : Bool} {R : Nat → List Tri} {W : Int} {n : Nat} {stem ring : List Int} {i : Nat} : Rg.pT wl R W n stem ring i = Rg.gB wl R W 0 (Rg.mPd n (Rg.gB wl R W n 1 Rg.dl ring) (1 * W ^ ring.length)) (fun i _ => Rg.chP n (Rg.gB wl R W n 1 Rg.dl ring) (1 * W ^ ring.length) i) stem i 0 := by
  unfold Rg.pT Rg.rgD Rg.rgC Rg.rgP Rg.rgS
  rw [List.drop_left]
theorem pB_eq {wl : Bool} {R : Nat → List Tri} {W : Int} {n : Nat} {stem ring : List Int} : Rg.pB wl R W n stem ring = Rg.mPd n (Rg.gB wl R W n 1 Rg.dl ring) (1 * W ^ ring.length) * W ^ stem.length := by
  unfold Rg.pB Rg.rgD Rg.rgP Rg.rgS
  rw [List.drop_left]
theorem cal_gb {wl : Bool} {R : List (List Tri)} {W : Int} {ring : List Int} {l : Nat} (C : CaOk R W ring.length) (l8 : l ≤ 8) : GbOk R.length (Rf R) W 0 (Rg.mPd R.length (cP wl R W ring) (cS W ring)) (fun i _ => Rg.chP R.length (cP wl R W ring) (cS W ring) i) l (2 ^ 2200) := by
  obtain ⟨c1, c2⟩ := C.cle (wl := wl)
  have n6 := C.n6
  have bW := C.bW
  have p := C.rk.pos
  have cst : ((2 ^ 2200 : Nat) : Int) = 2 ^ 2200 := by push_cast; rfl
  refine ⟨C.rk, C.n0, by omega, by omega, by omega, ?_, fun i _ j => ?_, ?_⟩
  · rw [← cst]; exact Int.ofNat_le.mpr c1
  · rw [← cst]; exact Int.ofNat_le.mpr (c2 i)
  · have h1 := pow36 p bW l
    have h2 : (2 : Int) ^ (36 * l) ≤ 2 ^ 288 := by
      have := wp_mono (W := 2) (by decide) (36 * l) (288 - 36 * l)
      rwa [show 36 * l + (288 - 36 * l) = 288 by omega] at this
    have h3 := Int.mul_le_mul_of_nonneg_left (Int.le_trans h1 h2) (show (0 : Int) ≤ 2 ^ 2200 from Int.le_of_lt (Int.pow_pos (by decide)))
    refine Int.lt_of_le_of_lt h3 ?_
    rw [← Int.pow_add]
    have h4 := wp_mono (W := 2) (by decide) (2200 + 288 + 1) 4511
    have h5 : (2 : Int) ^ (2200 + 288) < 2 ^ (2200 + 288 + 1) := by
      rw [Int.pow_succ]
      have : (0 : Int) < 2 ^ (2200 + 288) := Int.pow_pos (by decide)
      omega
    exact Int.lt_of_lt_of_le h5 h4
section
variable {P : Program} {w : World} {K : PySem.W.Frag} {mg : Str → Option Value} {base : Heap}
theorem scCal : FnScope ["book", "name", "stem", "ring", "with_less", "whole", "rows", "chances", "size", "lines", "chance"] ["book", "name", "stem", "ring", "with_less"] (defScope sCal) := ⟨rfl, rfl, rfl, by decide +kernel, rfl, by decide +kernel, by decide +kernel⟩
noncomputable abbrev prT (wl : Bool) (ns : List Str) (Rw : List (List Ent)) (S R : List Int) (x : Str) : Int := Rg.pT wl (Rf (rowsR ns Rw)) (wholeS Rw : Nat) (rowsR ns Rw).length S R (ns.idxOf x)
noncomputable abbrev prB (wl : Bool) (ns : List Str) (Rw : List (List Ent)) (S R : List Int) : Int := Rg.pB wl (Rf (rowsR ns Rw)) (wholeS Rw : Nat) (rowsR ns Rw).length S R
def spCal (w : World) : Sp := fun vs H Q _ => ∃ (bk st rg : Addr) (b : Int) (ns : List Str) (Rw : List (List Ent)) (B : Nat) (x : Str) (wl : Bool) (S R : List Int), vs = [.ref bk, .str x, .ref st, .ref rg, .bl wl] ∧ ShB w H bk b ns Rw ∧ BkOk b ns Rw B ∧ x ∈ ns ∧ H st = some (.tup (S.map V.int)) ∧ H rg = some (.tup (R.map V.int)) ∧ S.length ≤ 8 ∧ R.length ≤ 8 ∧
  ∀ (T : Addr) (H' : Hp), Same H H' → H' T = some (.tup [.int (prT wl ns Rw S R x), .int (prB wl ns Rw S R)]) → Q (.ref T) H'
set_option maxHeartbeats 1000000 in
theorem ok_cal {f fP fC fG fN : Addr} {fd fdP fdC fdG fdN : FuncData} (F : Fun K "_chance_along" "_chance_along" sCal f fd)
    (FP : Fun K "_parted" "_parted" sPrt fP fdP) (GP : FnOk P w K mg base CX0 2 fP fdP ["book"] (spPrt w)) (bP : Binds K fdP ["book"] []) (gP : mg "_parted" = some (.ref fP))
    (FC : Fun K "_chances_around" "_chances_around" sCa fC fdC) (GC : FnOk P w K mg base CX0 2 fC fdC ["whole", "rows", "ring", "with_less"] spCa) (bC : Binds K fdC ["whole", "rows", "ring", "with_less"] []) (gC : mg "_chances_around" = some (.ref fC))
    (FG : Fun K "_gone_back" "_gone_back" sGb fG fdG) (GG : FnOk P w K mg base CX0 1 fG fdG ["whole", "rows", "digits", "with_less", "lines", "size"] spGb) (bG : Binds K fdG ["whole", "rows", "digits", "with_less", "lines", "size"] []) (gG : mg "_gone_back" = some (.ref fG))
    (FN : Fun K "_number_of" "_number_of" sNum fN fdN) (GN : FnOk P w K mg base CX0 1 fN fdN ["book", "name"] (spNum w)) (bN : Binds K fdN ["book", "name"] []) (gN : mg "_number_of" = some (.ref fN)) : FnOk P w K mg base CX0 3 f fd ["book", "name", "stem", "ring", "with_less"] (spCal w) := by
  refine F.ok scCal (fun vs H Q E h => ?_) (fun cdv A outer s H vs Q E hr h => ?_)
  · obtain ⟨bk, st, rg, b, ns, Rw, B, x, wl, S, R, rfl, _⟩ := h
    rfl
  · obtain ⟨bk, st, rg, b, ns, Rw, B, x, wl, S, R, rfl, SB, BO, hx, hS, hR, S8, R8, k⟩ := h
    have hr2 : Room 2 _ := hr.mono (by decide)
    have hr1 : Room 1 _ := hr.mono (by decide)
    refine ⟨_, (pss_cons (ps_asg (pe_call GP hr2 (by rfl) gP FP.kp bP .nil pass0 (pa_cons (pv 0) pa_nil)) (pg_tup (by rfl) (pgs_cons (pg_name (i := 5) scCal.nd rfl (Or.inl rfl)) (pgs_cons (pg_name (i := 6) scCal.nd rfl (Or.inl rfl)) pgs_nil))))
      (pss_cons (ps_asg (pe_call GC hr2 (by rfl) gC FC.kp bC .nil pass0 (pa_cons (pv 5) (pa_cons (pv 6) (pa_cons (pv 3) (pa_cons (pv 4) pa_nil))))) (pg_tup (by rfl) (pgs_cons (pg_name (i := 7) scCal.nd rfl (Or.inl rfl)) (pgs_cons (pg_name (i := 8) scCal.nd rfl (Or.inl rfl)) pgs_nil))))
      (pss_cons (ps_asg (pe_call GG hr1 (by rfl) gG FG.kp bG .nil pass0 (pa_cons (pv 5) (pa_cons (pv 6) (pa_cons (pv 2) (pa_cons (pv 4) (pa_cons (pe_lc (own := [("chance", 10)]) (g := gName 10) (tt := tYes) rfl scCal.nd (pi_list (pv 7)) (blkOk_by (N := ["book", "name", "stem", "ring", "with_less", "whole", "rows", "chances", "size", "lines", "chance"]) (sc := defScope sCal) (by decide +kernel)) (fun _ _ _ _ _ => (pg_name (i := 10) scCal.nd rfl (Or.inl rfl))) (fun _ _ _ _ _ => pts_nil) (fun _ _ _ _ _ => (pe_lst (pa_cons (pv 10) pa_nil)))) (pa_cons (pv 8) pa_nil))))))) (pg_tup (by rfl) (pgs_cons (pg_name (i := 9) scCal.nd rfl (Or.inl rfl)) (pgs_cons (pg_name (i := 8) scCal.nd rfl (Or.inl rfl)) pgs_nil))))
      (pss_one (ps_ret (pe_tup (pa_cons (pe_ix ix_list (pe_ix ix_list (pv 9) (pe_call GN hr1 (by rfl) gN FN.kp bN .nil pass0 (pa_cons (pv 0) (pa_cons (pv 1) pa_nil))) (fun _ _ => rfl)) pe_int (fun _ _ => rfl)) (pa_cons (pv 8) pa_nil)))))))), ?_⟩
    have CA := BO.ca hx R8
    obtain ⟨n64, nW, n1000⟩ := BO.nums
    refine ⟨_, rfl, bk, b, ns, Rw, B, rfl, SB, BO.ent, fun T1 L1 H1 s1 g1 g2 => ?_⟩
    refine ⟨T1, _, rfl, SqT.of g1, rfl, _, _, rfl, _, _, rfl, rfl, ?_⟩
    refine ⟨_, rfl, _, rfl, _, rfl, _, rfl, (wholeS Rw : Nat), L1, rg, wl, rowsR ns Rw, R, rfl, g2, s1 _ _ hR, CA, fun T2 L2 H2 s2 g3 g4 => ?_⟩
    refine ⟨T2, _, rfl, SqT.of g3, rfl, _, _, rfl, _, _, rfl, rfl, ?_⟩
    have s02 := s1.trans s2
    refine ⟨_, rfl, _, rfl, _, rfl, _, rfl, _, rfl, L2, rfl, ⟨_, SqL.of g4⟩, fun D nD => ?_⟩
    refine lc_made (walk_list (K := K) (a := L2) (xs := ((List.range (rowsR ns Rw).length).map (Rg.chP (rowsR ns Rw).length (cP wl (rowsR ns Rw) (wholeS Rw : Nat) R) (cS (wholeS Rw : Nat) R))).map V.int)) (linF (fun i _ => Rg.chP (rowsR ns Rw).length (cP wl (rowsR ns Rw) (wholeS Rw : Nat) R) (cS (wholeS Rw : Nat) R) i) 1) nD (by rw [List.length_map, List.length_map, List.length_range, sizeLine_eq]; have := CA.n6; omega) (fun Ha sa => SqL.of (sa _ _ g4)) (fun i y Ha Hb hi sa yy Q2 R2 q2 => ?_) fun H3 s3 hL => ?_
    · obtain ⟨rfl, hy⟩ := yy
      rw [List.length_map, List.length_map, List.length_range] at hi
      rw [List.getElem?_map, List.getElem?_map, List.getElem?_range hi] at hy
      obtain rfl := Option.some.inj hy
      refine ⟨rfl, tyes ?_⟩
      exact ⟨_, rfl, by show 1 ≤ sizeLine; rw [sizeLine_eq]; decide, fun q nq => q2 q _ (same_upd nq) nq upd_same⟩
    · rw [List.length_map, List.length_map, List.length_range] at hL
      have s03 := s02.trans s3
      refine ⟨_, rfl, (wholeS Rw : Nat), _, L1, st, D, wl, rowsR ns Rw, S, 0, _, _, rfl, (g2.same s2).same s3, s03 _ _ hS, hL, cal_gb CA S8, fun T3 L3 H4 s4 g5 g6 => ?_⟩
      refine ⟨T3, _, rfl, SqT.of g5, rfl, _, _, rfl, _, _, rfl, rfl, ?_⟩
      have s04 := s03.trans s4
      obtain ⟨ls, l1, l2, l3⟩ := g6.ex
      obtain ⟨lq, hlq⟩ : ∃ q, ls[ns.idxOf x]? = some q := ⟨ls[ns.idxOf x]'(by rw [l2]; exact (BO.rn hx).2), List.getElem?_eq_getElem _⟩
      refine ⟨_, rfl, _, rfl, _, rfl, bk, b, ns, Rw, x, rfl, SB.same s04, n1000, hx, fun H5 s5 => ?_⟩
      refine ⟨L3, _, _, _, rfl, rfl, SqL.of (s5 _ _ l1), atI_nat (by rw [List.getElem?_map, hlq]; rfl), lq, _, _, _, rfl, rfl, SqL.of (s5 _ _ (l3 _ _ hlq)), atI_nat (i := 0) (lin_at (Nat.lt_succ_self 0)), _, rfl, by show 2 ≤ sizeLine; rw [sizeLine_eq]; decide, fun q nq => ?_⟩
      refine k q _ ((s04.trans s5).trans (same_upd nq)) ?_
      rw [upd_same]
      unfold prT prB
      rw [pT_eq, pB_eq]
end
end My

set_option linter.all false
namespace My
open PySem PySem.Spec PyProof.Rows L2
abbrev sAtm : Stmt := topS 9
/-- the greater writing -/
def W0 (b n d : Int) (S R : List Int) : Prop := (n = d ∧ S = [] ∧ R = [b - 1]) ∨ (n ≠ d ∧ ∃ m k, Dv b d n m k ∧ S = (dl b d n m).take k ∧ R = (dl b d n m).drop k)
theorem wr_head {b n d : Int} {W : List (List Int × List Int)} (h : WR b n d W) : ∃ S R rest, W = (S, R) :: rest ∧ W0 b n d S R := by
  rcases h with ⟨e, rfl⟩ | ⟨e, m, k, dv, rfl⟩
  · exact ⟨_, _, _, rfl, .inl ⟨e, rfl, rfl⟩⟩
  · unfold wOf
    split
    · exact ⟨_, _, _, rfl, .inr ⟨e, m, k, dv, rfl, rfl⟩⟩
    · exact ⟨_, _, _, rfl, .inr ⟨e, m, k, dv, rfl, rfl⟩⟩
theorem W0.uniq {b n d : Int} {S R S' R' : List Int} (h : W0 b n d S R) (h' : W0 b n d S' R') : S = S' ∧ R = R' := by
  rcases h with ⟨e, rfl, rfl⟩ | ⟨e, m, k, dv, rfl, rfl⟩
  · rcases h' with ⟨_, rfl, rfl⟩ | ⟨e', _⟩
    · exact ⟨rfl, rfl⟩
    · exact absurd e e'
  · rcases h' with ⟨e', _⟩ | ⟨_, m', k', dv', rfl, rfl⟩
    · exact absurd e' e
    · obtain ⟨rfl, rfl⟩ := dv.uniq dv'
      exact ⟨rfl, rfl⟩
theorem prB_lt {wl : Bool} {b : Int} {ns : List Str} {Rw : List (List Ent)} {B : Nat} {S R : List Int} {x : Str} (h : BkOk b ns Rw B) (hx : x ∈ ns) (hS : S.length ≤ 8) (hR : R.length ≤ 8) : 0 < prB wl ns Rw S R ∧ (prB wl ns Rw S R).natAbs < 2 ^ 7000 := by
  refine ⟨Rg.pB_pos h.rk, ?_⟩
  unfold prB
  rw [pB_eq]
  exact (cal_gb (wl := wl) (h.ca hx hR) hS).sz (Nat.le_refl _)
section
variable {P : Program} {w : World} {K : PySem.W.Frag} {mg : Str → Option Value} {base : Heap}
theorem scAtm : FnScope ["book", "name", "fraction", "stem", "ring", "top", "bottom"] ["book", "name", "fraction"] (defScope sAtm) := ⟨rfl, rfl, rfl, by decide +kernel, rfl, by decide +kernel, by decide +kernel⟩
/-- what the law's fraction is handed in as -/
structure FrH (w : World) (K : PySem.W.Frag) (H : Hp) (bk : Addr) (v : V) (b n d : Int) (ns : List Str) (Rw : List (List Ent)) (B : Nat) (x : Str) : Prop where
  sb : ShB w H bk b ns Rw
  bo : BkOk b ns Rw B
  hx : x ∈ ns
  fr : Fra b n d
  q : ∃ G, Same G H ∧ Dq K G v (.tuple [.int n, .int d])
  l8 : ∀ S R, W0 b n d S R → S.length ≤ 8 ∧ R.length ≤ 8
def spAtm (w : World) (K : PySem.W.Frag) : Sp := fun vs H Q _ => ∃ (bk : Addr) (v : V) (b n d : Int) (ns : List Str) (Rw : List (List Ent)) (B : Nat) (x : Str), vs = [.ref bk, .str x, v] ∧ FrH w K H bk v b n d ns Rw B x ∧
  ∀ S R, W0 b n d S R → ∀ (T : Addr) (H' : Hp), Same H H' → H' T = some (lowV (prT true ns Rw S R x) (prB true ns Rw S R)) → Q (.ref T) H'
theorem ok_atm {f fW fC fL : Addr} {fd fdW fdC fdL : FuncData} (F : Fun K "at_most" "at_most" sAtm f fd)
    (FW : Fun K "writings_of" "writings_of" sWritings fW fdW) (GW : FnOk P w K mg base CX0 3 fW fdW ["base", "fraction"] (spWr K)) (bW : Binds K fdW ["base", "fraction"] []) (gW : mg "writings_of" = some (.ref fW))
    (FC : Fun K "_chance_along" "_chance_along" sCal fC fdC) (GC : FnOk P w K mg base CX0 3 fC fdC ["book", "name", "stem", "ring", "with_less"] (spCal w)) (bC : Binds K fdC ["book", "name", "stem", "ring", "with_less"] []) (gC : mg "_chance_along" = some (.ref fC))
    (FL : Fun K "in_lowest_terms" "in_lowest_terms" sInl fL fdL) (GL : FnOk P w K mg base CX0 1 fL fdL ["top", "bottom"] spInl) (bL : Binds K fdL ["top", "bottom"] []) (gL : mg "in_lowest_terms" = some (.ref fL)) : FnOk P w K mg base CX0 4 f fd ["book", "name", "fraction"] (spAtm w K) := by
  refine F.ok scAtm (fun vs H Q E h => ?_) (fun cdv A outer s H vs Q E hr h => ?_)
  · obtain ⟨bk, v, b, n, d, ns, Rw, B, x, rfl, _⟩ := h
    rfl
  · obtain ⟨bk, v, b, n, d, ns, Rw, B, x, rfl, FH, k⟩ := h
    have hr3 : Room 3 _ := hr.mono (by decide)
    have hr1 : Room 1 _ := hr.mono (by decide)
    refine ⟨_, (pss_cons (ps_asg (pe_ix ix_list (pe_call GW hr3 (by rfl) gW FW.kp bW .nil pass0 (pa_cons (pe_ix ix_tup (pv 0) pe_int (fun _ _ => rfl)) (pa_cons (pv 2) pa_nil))) pe_int (fun _ _ => rfl)) (pg_tup (by rfl) (pgs_cons (pg_name (i := 3) scAtm.nd rfl (Or.inl rfl)) (pgs_cons (pg_name (i := 4) scAtm.nd rfl (Or.inl rfl)) pgs_nil))))
      (pss_cons (ps_asg (pe_call GC hr3 (by rfl) gC FC.kp bC .nil pass0 (pa_cons (pv 0) (pa_cons (pv 1) (pa_cons (pv 3) (pa_cons (pv 4) (pa_cons pe_bl pa_nil)))))) (pg_tup (by rfl) (pgs_cons (pg_name (i := 5) scAtm.nd rfl (Or.inl rfl)) (pgs_cons (pg_name (i := 6) scAtm.nd rfl (Or.inl rfl)) pgs_nil))))
      (pss_one (ps_ret (pe_call GL hr1 (by rfl) gL FL.kp bL .nil pass0 (pa_cons (pv 5) (pa_cons (pv 6) pa_nil))))))), ?_⟩
    obtain ⟨rr, kvs, qs, h1, _⟩ := FH.sb.ex
    obtain ⟨G, sG, dv⟩ := FH.q
    refine ⟨_, rfl, bk, _, 0, _, rfl, rfl, SqT.of h1, rfl, _, rfl, b, n, d, v, G, rfl, sG, dv, FH.fr, fun W hW q ws G1 H1 m hq _ _ dq => ?_⟩
    obtain ⟨S, R, rest, rfl, w0⟩ := wr_head hW
    obtain ⟨S8, R8⟩ := FH.l8 S R w0
    rw [List.map_cons] at dq
    cases dq with
    | cons d1 d2 =>
      rename_i v0 vr
      obtain ⟨a, y, z, rfl, ha, hy, hz⟩ := dq_two d1
      refine ⟨q, _, _, _, rfl, rfl, SqL.of hq, atI_nat (i := 0) rfl, a, _, rfl, SqT.of (m.gh _ _ ha), rfl, _, _, rfl, _, _, rfl, rfl, ?_⟩
      refine ⟨_, rfl, _, rfl, _, rfl, _, rfl, bk, y, z, b, ns, Rw, B, x, true, S, R, rfl, FH.sb.same m.hh, FH.bo, FH.hx, m.gh _ _ hy, m.gh _ _ hz, S8, R8, fun T1 H2 s2 g1 => ?_⟩
      refine ⟨T1, _, rfl, SqT.of g1, rfl, _, _, rfl, _, _, rfl, rfl, ?_⟩
      obtain ⟨p0, p1⟩ := prB_lt (wl := true) FH.bo FH.hx S8 R8
      refine ⟨_, rfl, _, rfl, _, _, rfl, p0, nat_up p1 (by decide), fun q2 nq2 => ?_⟩
      have s02 := m.hh.trans s2
      exact k S R w0 q2 _ (s02.trans (same_upd nq2)) upd_same
end
end My

set_option linter.all false
namespace Hs
def rot (p q t : Nat) : Nat := (t * p) % (p * q) + t / q
def unrot (p q u : Nat) : Nat := (u % p) * q + u / p
theorem unrot_rot {p q t : Nat} (hp : 0 < p) (hq : 0 < q) (h : t < p * q) : rot p q t < p * q ∧ unrot p q (rot p q t) = t := by
  have ha : t / q < p := Nat.div_lt_of_lt_mul (by rw [Nat.mul_comm]; exact h)
  have hb : t % q < q := Nat.mod_lt _ hq
  have e : rot p q t = t % q * p + t / q := by
    unfold rot
    congr 1
    have : t * p = (t % q) * p + (p * q) * (t / q) := by
      conv => lhs; rw [← Nat.mod_add_div t q]
      rw [Nat.add_mul]
      congr 1
      ac_rfl
    rw [this, Nat.add_mul_mod_self_left]
    exact Nat.mod_eq_of_lt (by rw [Nat.mul_comm p q]; exact Nat.mul_lt_mul_of_pos_right hb hp)
  rw [e]
  refine ⟨?_, ?_⟩
  · have : t % q * p + p ≤ q * p := by
      have := Nat.mul_le_mul_right p (show t % q + 1 ≤ q by omega)
      rwa [Nat.add_mul, Nat.one_mul] at this
    rw [Nat.mul_comm p q]
    omega
  · unfold unrot
    rw [Nat.mul_comm (t % q) p, Nat.mul_add_mod, Nat.mod_eq_of_lt ha, Nat.mul_add_div hp, Nat.div_eq_of_lt ha, Nat.add_zero, Nat.mul_comm]
    exact Nat.div_add_mod t q
theorem unmul {m p1 q1 c u : Nat} (e : p1 * q1 = c * m + 1) (h : u < m) : (u * p1 % m) * q1 % m = u := by
  rw [Nat.mod_mul_mod, Nat.mul_assoc, e, Nat.mul_add, Nat.mul_one, ← Nat.mul_assoc, Nat.add_comm, Nat.add_mul_mod_self_right]
  exact Nat.mod_eq_of_lt h
theorem unadd {m k v : Nat} (hk : k < m) (h : v < m) : ((v + k) % m + (m - k)) % m = v := by
  rcases Nat.lt_or_ge (v + k) m with c | c
  · rw [Nat.mod_eq_of_lt c, show v + k + (m - k) = v + m by omega, Nat.add_mod_right, Nat.mod_eq_of_lt h]
  · have e : (v + k) % m = v + k - m := by rw [Nat.mod_eq_sub_mod c]; exact Nat.mod_eq_of_lt (by omega)
    rw [e, show v + k - m + (m - k) = v by omega, Nat.mod_eq_of_lt h]
theorem lin {m A p2 a b : Nat} (h : (A + a * p2) % m = (A + b * p2) % m) (_ : a ≤ b) : m ∣ (b - a) * p2 := by
  have h2 := Nat.sub_mod_eq_zero_of_mod_eq h.symm
  rw [Nat.add_sub_add_left, ← Nat.sub_mul] at h2
  exact Nat.dvd_of_mod_eq_zero h2
def fin (m c0 hf c : Nat) : Int := if c = m - 1 then (c0 : Nat) else if c < hf then (c : Int) else (c : Int) - (m : Nat)
theorem fin_inj {m c0 hf c d : Nat} (h1 : hf ≤ m) (h2 : c0 < hf) (hc : c < m) (hd : d < m) (h : fin m c0 hf c = fin m c0 hf d) : c = d ∨ (c = m - 1 ∧ d = c0) ∨ (c = c0 ∧ d = m - 1) := by
  unfold fin at h
  split at h <;> (try split at h) <;> (try split at h) <;> (try split at h) <;> omega
theorem fin_ne {m c0 hf c : Nat} (h1 : hf ≤ m) (h2 : c0 < hf) (h3 : m ≤ 2 * hf) (h : c < m) : fin m c0 hf c ≠ -1 ∧ -(hf : Int) ≤ fin m c0 hf c ∧ fin m c0 hf c < (hf : Int) := by
  unfold fin
  split
  · omega
  · split <;> omega
section
variable {p q m p1 q1 cc kk c0 hf p2 r1 r2 : Nat}
def back (p q m q1 kk c : Nat) : Nat := unrot p q ((c + (m - kk)) % m * q1 % m)
def stp (p q m p1 kk t : Nat) : Nat := (rot p q t * p1 % m + kk) % m
theorem back_stp (hm : m = p * q) (hp : 0 < p) (hq : 0 < q) (e : p1 * q1 = cc * m + 1) (hk : kk < m) {t : Nat} (h : t < m) : back p q m q1 kk (stp p q m p1 kk t) = t := by
  subst hm
  obtain ⟨h1, h2⟩ := unrot_rot hp hq h
  have m0 : 0 < p * q := by omega
  unfold back stp
  rw [unadd hk (Nat.mod_lt _ m0), unmul e h1, h2]
theorem apart (hm : m = p * q) (hp : 0 < p) (hq : 0 < q) (e : p1 * q1 = cc * m + 1) (hk : kk < m) (h1 : hf ≤ m) (h2 : c0 < hf) (g : Nat.gcd m p2 = 1) (m200 : 200 ≤ m)
    (e1 : back p q m q1 kk (m - 1) = r1) (e2 : back p q m q1 kk c0 = r2) (n1 : ∀ d, d < 200 → (r1 + d * p2) % m ≠ r2) (n2 : ∀ d, d < 200 → (r2 + d * p2) % m ≠ r1) {A a b : Nat} (hab : a < b) (hb : b < 200) :
    fin m c0 hf (stp p q m p1 kk ((A + a * p2) % m)) ≠ fin m c0 hf (stp p q m p1 kk ((A + b * p2) % m)) := fun h => by
  have m0 : 0 < m := by omega
  have la : (A + a * p2) % m < m := Nat.mod_lt _ m0
  have lb : (A + b * p2) % m < m := Nat.mod_lt _ m0
  have ba := back_stp (p1 := p1) hm hp hq e hk la
  have bb := back_stp (p1 := p1) hm hp hq e hk lb
  have sa : stp p q m p1 kk ((A + a * p2) % m) < m := Nat.mod_lt _ m0
  have sb : stp p q m p1 kk ((A + b * p2) % m) < m := Nat.mod_lt _ m0
  have up : (A + b * p2) % m = ((A + a * p2) % m + (b - a) * p2) % m := by
    rw [Nat.mod_add_mod, Nat.add_assoc, ← Nat.add_mul, show a + (b - a) = b by omega]
  rcases fin_inj h1 h2 sa sb h with q | ⟨q1, q2⟩ | ⟨q1, q2⟩
  · rw [q, bb] at ba
    have dv := lin ba.symm (Nat.le_of_lt hab)
    have := Nat.Coprime.dvd_of_dvd_mul_right (show Nat.Coprime m p2 from g) dv
    have := Nat.le_of_dvd (by omega) this
    omega
  · rw [q1, e1] at ba; rw [q2, e2] at bb
    rw [← ba, ← bb] at up
    exact n1 (b - a) (by omega) up.symm
  · rw [q1, e2] at ba; rw [q2, e1] at bb
    rw [← ba, ← bb] at up
    exact n2 (b - a) (by omega) up.symm
end
theorem apart64 {A a b : Nat} (hab : a < b) (hb : b < 200) : fin 18446744073709551616 1546275796 9223372036854775808 (stp 2147483648 8589934592 18446744073709551616 11400714785074694791 2870177450013471924 ((A + a * 14029467366897019727) % 18446744073709551616)) ≠ fin 18446744073709551616 1546275796 9223372036854775808 (stp 2147483648 8589934592 18446744073709551616 11400714785074694791 2870177450013471924 ((A + b * 14029467366897019727) % 18446744073709551616)) :=
  apart (q1 := 614540362697595703) (cc := 379806830464837242) (r1 := 9148689060682678900) (r2 := 15881292906973731817) (by decide +kernel) (by decide +kernel) (by decide +kernel) (by decide +kernel) (by decide +kernel) (by decide +kernel) (by decide +kernel) (by decide +kernel) (by decide +kernel) (by decide +kernel) (by decide +kernel) (by decide +kernel) (by decide +kernel) hab hb
end Hs

namespace My
open PySem
namespace Hs
def sT (m p1 p2 e1 e2 : Nat) (c : Nat) (h : Int) : Nat := ((c + (h % (m : Int)).toNat * p2) % m * e1 % m + (c + (h % (m : Int)).toNat * p2) % m / e2) * p1 % m
def fF (m hf : Nat) (c0 : Int) (c : Nat) : Int := if c == m - 1 then c0 else if c < hf then c else (c : Int) - m
theorem tH_eq (l : List Int) : Builtin.Tuple.tupleHashOf l = fF (2 ^ 64) (2 ^ 63) 1546275796 ((l.foldl (sT (2 ^ 64) 11400714785074694791 14029467366897019727 (2 ^ 31) (2 ^ 33)) 2870177450012600261 + (l.length ^^^ (2870177450012600261 ^^^ 3527539))) % 2 ^ 64) := rfl
theorem fF_fin (m hf c0 c : Nat) : fF m hf (c0 : Nat) c = _root_.Hs.fin m c0 hf c := by
  unfold fF _root_.Hs.fin
  by_cases h : c = m - 1
  · rw [if_pos h, if_pos (by rw [h]; exact beq_self_eq_true _)]
  · rw [if_neg h, if_neg fun q => h (eq_of_beq q)]
theorem two (m p1 p2 p5 p q kk hf c0 : Nat) (hm : m = p * q) (h : Int) (a : Nat) (ha : a < m) : fF m hf (c0 : Nat) (([h, (a : Int)].foldl (sT m p1 p2 p q) p5 + kk) % m) = _root_.Hs.fin m c0 hf (_root_.Hs.stp p q m p1 kk ((sT m p1 p2 p q p5 h + a * p2) % m)) := by
  have ea : ((a : Int) % (m : Int)).toNat = a := by
    rw [Int.emod_eq_of_lt (by omega) (by omega)]; rfl
  rw [fF_fin]
  congr 1
  rw [List.foldl_cons, List.foldl_cons, List.foldl_nil]
  generalize sT m p1 p2 p q p5 h = A
  unfold sT _root_.Hs.stp _root_.Hs.rot
  rw [ea, hm]
theorem apartT (h : Int) {a b : Nat} (hab : a < b) (hb : b < 200) : Builtin.Tuple.tupleHashOf [h, (a : Int)] ≠ Builtin.Tuple.tupleHashOf [h, (b : Int)] := by
  have e0 : (1546275796 : Int) = ((1546275796 : Nat) : Int) := rfl
  have m200 : 200 ≤ 2 ^ 64 := by decide +kernel
  have hm : (2 : Nat) ^ 64 = 2 ^ 31 * 2 ^ 33 := by decide +kernel
  rw [tH_eq, tH_eq, e0, show [h, (a : Int)].length = 2 from rfl, show [h, (b : Int)].length = 2 from rfl]
  rw [two _ _ _ _ _ _ _ _ _ hm h a (by omega), two _ _ _ _ _ _ _ _ _ hm h b (by omega)]
  exact _root_.Hs.apart (q1 := 614540362697595703) (cc := 379806830464837242) (r1 := 9148689060682678900) (r2 := 15881292906973731817) hm (by decide +kernel) (by decide +kernel) (by decide +kernel) (by decide +kernel) (by decide +kernel) (by decide +kernel) (by decide +kernel) m200 (by decide +kernel) (by decide +kernel) (by decide +kernel) (by decide +kernel) hab hb
theorem tH_in (h : Int) {a : Nat} (ha : a < 200) : Builtin.Tuple.tupleHashOf [h, (a : Int)] ≠ -1 ∧ -((2 ^ 63 : Nat) : Int) ≤ Builtin.Tuple.tupleHashOf [h, (a : Int)] ∧ Builtin.Tuple.tupleHashOf [h, (a : Int)] < ((2 ^ 63 : Nat) : Int) := by
  have e0 : (1546275796 : Int) = ((1546275796 : Nat) : Int) := rfl
  have m200 : 200 ≤ 2 ^ 64 := by decide +kernel
  have hm : (2 : Nat) ^ 64 = 2 ^ 31 * 2 ^ 33 := by decide +kernel
  rw [tH_eq, e0, show [h, (a : Int)].length = 2 from rfl]
  rw [two _ _ _ _ _ _ _ _ _ hm h a (by omega)]
  exact _root_.Hs.fin_ne (by decide +kernel) (by decide +kernel) (by decide +kernel) (Nat.mod_lt _ (by decide +kernel))
theorem red_id {i : Int} (h1 : i ≠ -1) (h2 : -((2 ^ 63 : Nat) : Int) ≤ i) (h3 : i < ((2 ^ 63 : Nat) : Int)) : reduceHash i = i := by
  unfold reduceHash
  have c : ((2 ^ 63 : Nat) : Int) = 2 ^ 63 := by rfl
  rw [c] at h2 h3
  rw [if_pos (by simp only [decide_eq_true h2, decide_eq_true h3]; rfl), if_neg (by simpa using h1)]
theorem hashInt_small {a : Nat} (ha : a < 200) : hashInt (a : Int) = (a : Int) := by
  have e : ((a : Int).natAbs % (2 ^ 61 - 1 : Nat)) = a := by
    rw [Int.natAbs_natCast]; exact Nat.mod_eq_of_lt (Nat.lt_of_lt_of_le ha (by decide +kernel))
  have n0 : ¬ ((a : Int) < 0) := by omega
  have n1 : ¬ (((a : Int) == -1) = true) := by
    intro z
    have := eq_of_beq z
    omega
  have r : rawHash (a : Int) = (a : Int) := by
    unfold rawHash
    simp only [if_neg n0, ← Int.natCast_emod, e]
    rw [if_neg n1]
  unfold hashInt
  rw [r, if_neg n1]
end Hs
end My

set_option linter.all false
namespace My
open PySem PySem.Spec PyProof.Rows L2
/-! ### dicts by name and place -/
def qk (p : Str × Nat) : List Key := [.inr p.1, .inl ((p.2 : Nat) : Int)]
abbrev qv (p : Str × Nat) : List V := [.str p.1, .int ((p.2 : Nat) : Int)]
theorem qk_v (p : Str × Nat) : (qk p).map kV = qv p := rfl
theorem qk_inj {p q : Str × Nat} (h : qk p = qk q) : p = q := by
  unfold qk at h
  injection h with h1 h2
  injection h2 with h2 _
  injection h1 with h1
  injection h2 with h2
  obtain ⟨x, i⟩ := p
  obtain ⟨y, j⟩ := q
  dsimp only at h1 h2
  rw [h1, show i = j by omega]
theorem qk_apart {P : Program} {w : World} {x : Str} : ∀ {l : List Nat}, l.Nodup → (∀ a ∈ l, a < 200) → (l.map fun a => tupleKeyHash (mixKind P w) (qk (x, a))).Nodup := fun {l} nd h => by
  refine List.pairwise_map.mpr (List.Pairwise.imp_of_mem (R := fun a b => a ≠ b) (fun {a b} ha hb ne => ?_) nd)
  have la := h a ha
  have lb := h b hb
  have ev : ∀ c : Nat, c < 200 → tupleKeyHash (mixKind P w) (qk (x, c)) = Builtin.Tuple.tupleHashOf [hashStr w x, (c : Int)] := fun c hc => by
    show reduceHash (Builtin.Tuple.tupleHashOf [hashStr w x, hashInt (c : Int)]) = _
    rw [Hs.hashInt_small hc]
    obtain ⟨h1, h2, h3⟩ := Hs.tH_in (hashStr w x) hc
    exact Hs.red_id h1 h2 h3
  rw [ev a la, ev b lb]
  rcases Nat.lt_or_gt_of_ne ne with c | c
  · exact Hs.apartT _ c lb
  · exact fun z => Hs.apartT _ c la z.symm
def mrg (kvs more : List (List Key × V)) : List (List Key × V) := more.foldl (fun acc kv => putK acc kv.1 kv.2) kvs
theorem mrg_app : ∀ (more kvs : List (List Key × V)), ((kvs ++ more).map (·.1)).Nodup → mrg kvs more = kvs ++ more
  | [], kvs, _ => (List.append_nil _).symm
  | p :: more, kvs, h => by
    have h1 : putK kvs p.1 p.2 = kvs ++ [p] := by
      unfold putK
      rw [if_neg]
      intro z
      obtain ⟨q, hq, e⟩ := List.any_eq_true.mp z
      rw [List.map_append, List.nodup_append] at h
      exact h.2.2 q.1 (List.mem_map.mpr ⟨q, hq, rfl⟩) p.1 (List.mem_map.mpr ⟨p, List.mem_cons_self, rfl⟩) (of_decide_eq_true e)
    show mrg (putK kvs p.1 p.2) more = _
    rw [h1, mrg_app more (kvs ++ [p]) (by rw [List.append_assoc]; exact h), List.append_assoc]; rfl
theorem KT_mrg {H : Hp} : ∀ {more : List (List Key × V)} {ys : List (List Key × Addr × Value)} {kvs : List (List Key × V)} {xs : List (List Key × Addr × Value)}, KT H kvs xs → KT H more ys → KT H (mrg kvs more) (PySem.storedAllH xs ys)
  | _, _, kvs, xs, h, .nil => h
  | _, _, kvs, xs, h, .cons (a := p) (b := q) h1 t => by
    obtain ⟨e1, e2, e3⟩ := h1
    have := KT.put h p.1 (b := q.2.1) (y := p.2) (u := q.2.2) e2 e3
    refine KT_mrg (kvs := putK kvs p.1 p.2) (xs := storedH xs q.1 q.2.1 q.2.2) ?_ t
    rw [← e1]; exact this
def cv : V → Value
  | .bl b => .bool b
  | .ref q => .ref q
  | _ => .none
def isBR : V → Bool
  | .bl _ => true
  | .ref _ => true
  | _ => false
theorem cv_rel {v : V} {u : Value} (h : isBR v = true) (r : RelV v u) : u = cv v ∧ RelV v (cv v) := by
  cases v <;> first | (cases h; done) | skip
  · have e : u = Value.bool _ := r
    exact ⟨e, rfl⟩
  · cases r
    exact ⟨rfl, rfl⟩
/-- a pair's place, the key's place, the key, the value -/
abbrev Zk := Addr × Addr × List Key × V
def rDictG (K : PySem.W.Frag) : List V → Hp → VK → Prop := fun xs H Q => ∃ (a : Addr) (zs : List Zk), xs = [.ref a] ∧ SqL K H a (zs.map fun z => V.ref z.1) ∧ zs.length ≤ 1000 ∧ (∀ z ∈ zs, H z.1 = some (.tup [.ref z.2.1, z.2.2.2]) ∧ H z.2.1 = some (.tup (z.2.2.1.map kV)) ∧ isBR z.2.2.2 = true) ∧ (zs.map fun z => z.2.2.1).Nodup ∧
  ∀ p, H p = none → Q (.ref p) (upd H p (.dT (zs.map fun z => (z.2.2.1, z.2.2.2))))
def rUpdT (P : Program) (w : World) : V → List V → Hp → VK → Prop := fun x xs H Q => ∃ (a b : Addr) (kvs more : List (List Key × V)), x = .ref a ∧ xs = [.ref b] ∧ a ≠ b ∧ H a = some (.dT kvs) ∧ H b = some (.dT more) ∧ (kvs ≠ [] ∨ (more.map fun p => tupleKeyHash (mixKind P w) p.1).Nodup) ∧ kvs.length + more.length ≤ 1000 ∧ ((kvs ++ more).map (·.1)).Nodup ∧ Q .non (upd H a (.dT (kvs ++ more)))
def rPop1 : V → List V → Hp → VK → Prop := fun x xs H Q => ∃ (a : Addr) (kvs : List (List Key × V)) (k : List Key) (b : Addr) (v : V), x = .ref a ∧ xs = [.ref b] ∧ H a = some (.dT kvs) ∧ H b = some (.tup (k.map kV)) ∧ valV kvs k = some v ∧ Q v (upd H a (.dT (dropK kvs k)))
section
variable {X : Cx}
theorem mt_updT (hu : X.A.units + 1 < cLine) : MtR X "dict.update" (rUpdT X.prog X.w) := by
  intro pins s σ H x xs v us Q I rx rxs h
  obtain ⟨a, b, kvs, more, rfl, rfl, ab, ha, hb, ap, sz, nd, q⟩ := h
  cases rx
  obtain ⟨u, rfl, r1⟩ := vals1 rxs
  cases r1
  obtain ⟨z1, hd1, xs1, rel1, dd1⟩ := dt_of I.hok ha
  obtain ⟨z2, hd2, xs2, rel2, dd2⟩ := dt_of I.hok hb
  have l1 := Paired.length rel1
  have l2 := Paired.length rel2
  have ek : ∀ {l : List (List Key × V)} {m : List (List Key × Addr × Value)}, KT H l m → m.map (·.1) = l.map (·.1) := by
    intro l m r
    induction r with
    | nil => rfl
    | cons h t ih => rw [List.map_cons, List.map_cons, ih, h.1]
  have ty : ∀ x ∈ xs2, s.TypeIs (.ref x.2.1) "tuple" := PySem.keyed_apart PySem.tupleKind_stays dd2
  refine PySem.call_update_dictH (knd := tupleKind (mixKind X.prog X.w)) (tupleKind_room_in1 hu) ab hd2 dd1 dd2 ?_ (by rw [← l1, ← l2, sizeLine_eq]; omega) fun h' hd' ho' hs => ?_
  · rcases ap with c | c
    · refine .inl fun e => c ?_
      rw [e] at l1
      exact List.eq_nil_of_length_eq_zero l1
    · refine .inr ⟨ty, ?_⟩
      have e : xs2.map (fun x => (tupleKind (mixKind X.prog X.w)).hash x.1) = more.map fun p => tupleKeyHash (mixKind X.prog X.w) p.1 := by
        have := congrArg (List.map fun k => tupleKeyHash (mixKind X.prog X.w) k) (ek rel2)
        rw [List.map_map, List.map_map] at this
        exact this
      rw [e]; exact c
  · have rel := KT_mrg rel1 rel2
    rw [mrg_app more kvs nd] at rel
    obtain ⟨o, es, ep, hq, h2, h3, h4, _, h5⟩ := hd'
    have I2 : Inv X pins σ (upd H a (.dT (kvs ++ more))) { s with heap := h' } :=
      d_write (t' := s.toks) I (by rw [ha]; exact True.intro) hs ⟨o, hq⟩ ⟨by rw [List.length_append, sizeLine_eq]; omega, hd1, _, rel.keeps (fun c ys ec => (by rw [upd_ne (ne_of ec ha (fun z => nomatch z))]; exact ec)), o, es, ep, hq, h2, h3, h4, h5⟩
    exact ⟨.non, _, I2, rfl, q⟩
theorem mt_pop1 (hu : X.A.units + 1 < cLine) : MtR X "dict.pop" rPop1 := by
  intro pins s σ H x xs v us Q I rx rxs h
  obtain ⟨a, kvs, k, b, v0, rfl, rfl, ha, hb, hv, q⟩ := h
  cases rx
  obtain ⟨u, rfl, r1⟩ := vals1 rxs
  cases r1
  obtain ⟨z, hd, xs', rel, dd⟩ := dt_of I.hok ha
  have hz : xs'.length ≤ sizeLine := by rw [← Paired.length rel]; exact z
  have r := rel.val k
  rw [hv] at r
  obtain ⟨p, hp, rp⟩ : ∃ p, atKey xs' k = some p ∧ RelV v0 p.2 := by
    cases ev : atKey xs' k with
    | none => rw [ev] at r; exact (show False from r).elim
    | some p => rw [ev] at r; exact ⟨p, rfl, r⟩
  refine PySem.call_pop_heap (knd := tupleKind (mixKind X.prog X.w)) (hsz := hz) (.inl rfl) (PySem.F.args_dict_pop_2 _ _) (tupleKind_room_in1 hu) (key_of I.hok hb) hd dd hp fun h' dd' hs => ?_
  obtain ⟨o, es, ep, hq, h2, h3, h4, _, h5⟩ := dd'
  have I2 : Inv X pins σ (upd H a (.dT (dropK kvs k))) { s with heap := h', toks := s.toks + (tupleKind (mixKind X.prog X.w)).draws k } :=
    d_write I (by rw [ha]; exact True.intro) hs ⟨o, hq⟩ ⟨Nat.le_trans (dropK_le kvs k) z, hd, _, (L2.DX.KT_drop k rel).keeps (fun c ys ec => (by rw [upd_ne (ne_of ec ha (fun z => nomatch z))]; exact ec)), o, es, ep, hq, h2, h3, h4, h5⟩
  exact ⟨v0, _, I2, rp, q⟩
theorem KT_zs {H : Hp} : ∀ {zs : List Zk}, (∀ z ∈ zs, H z.2.1 = some (.tup (z.2.2.1.map kV)) ∧ isBR z.2.2.2 = true) → KT H (zs.map fun z => (z.2.2.1, z.2.2.2)) (zs.map fun z => (z.2.2.1, z.2.1, cv z.2.2.2))
  | [], _ => .nil
  | z :: zs, h => by
    obtain ⟨h1, h2⟩ := h z List.mem_cons_self
    refine .cons ⟨rfl, h1, ?_⟩ (KT_zs fun y hy => h y (List.mem_cons_of_mem _ hy))
    show RelV z.2.2.2 (cv z.2.2.2)
    cases e : z.2.2.2 <;> rw [e] at h2 <;> first | (cases h2; done) | rfl
theorem KT_zero {H : Hp} : KT H [] [] := .nil
theorem call_dictG (hcalm : X.calm = true) (hu : X.A.units + 64 < cLine) : CallR X (.type "dict") (rDictG X.K) := by
  intro pins s σ H xs us Q I r q
  obtain ⟨a, zs, ex, hq, hl, hz, nd, q⟩ := q
  subst ex
  obtain ⟨u, eu, rx⟩ := vals1 r
  subst eu
  cases rx
  obtain ⟨its, rv, pl, hsz⟩ := I.list hq
  obtain ⟨o, n, ho, hc, hd, hdat⟩ := pl
  have ei : its = zs.map fun z => Value.ref z.1 := by
    have := refs_at (ps := zs.map (·.1)) (us := its) (by rw [List.map_map]; exact rv)
    rw [this, List.map_map]; rfl
  subst ei
  have hnew : ∀ b, H b ≠ none → b ≠ s.heap.objs.size := fun b h e => h (by rw [e]; exact I.hok.fresh (Nat.le_refl _))
  refine PySem.call_dict_pairsH (knd := tupleKind (mixKind X.prog X.w)) (ps := zs.map fun z => (z.2.2.1, z.2.1, cv z.2.2.2))
    (PySem.PairArg.list a (zs.map fun z => Value.ref z.1).toArray (fun j => ((zs[j]?).map (·.1)).getD 0) (zs.map fun z => (Value.ref z.2.1, cv z.2.2.2))) (I.ok.hd hcalm) (show X.A.in1.in1.units < cLine by show X.A.units + 1 + 1 < cLine; omega)
    ⟨⟨o, n, ho, hc, hd, hdat⟩, ?_⟩ ⟨by rw [List.length_map, List.length_map], fun i key v e => ?_⟩ (fun h' hk x hx => ?_) (by rw [List.length_map, sizeLine_eq]; omega) fun h' tk hd' hk => ?_
  · refine ⟨by simp, fun j k v e => ?_⟩
    rw [List.getElem?_map] at e
    cases ez : zs[j]? with
    | none => rw [ez] at e; cases e
    | some z =>
      rw [ez] at e
      have e := Option.some.inj e
      cases e
      refine ⟨by simp [ez], .inl ?_⟩
      obtain ⟨z1, z2, z3⟩ := hz z (List.mem_of_getElem? ez)
      obtain ⟨_, its, rv2, o2, ho2, hc2, n2, hd2⟩ := I.hok _ _ z1
      obtain ⟨x1, x2, ei2, r1, r2⟩ := vals2 rv2
      subst ei2
      cases r1
      obtain ⟨rfl, _⟩ := cv_rel z3 r2
      exact ⟨o2, (by show s.heap.get? (((zs[j]?).map (·.1)).getD 0) = _; rw [ez]; exact ho2), hc2, n2, hd2⟩
  · have e' : (zs.map fun z => (Value.ref z.2.1, cv z.2.2.2))[i]? = some (key, v) := e
    rw [List.getElem?_map] at e'
    cases ez : zs[i]? with
    | none => rw [ez] at e'; cases e'
    | some z =>
      rw [ez] at e'
      have e' := Option.some.inj e'
      cases e'
      exact ⟨z.2.2.1, z.2.1, by rw [List.getElem?_map, ez]; rfl, rfl⟩
  · obtain ⟨z, hzm, rfl⟩ := List.mem_map.mp hx
    have h2 := (hz z hzm).2.1
    obtain ⟨o3, its3, n3, g1, g2⟩ := key_of (P := X.prog) (w := X.w) (ks := z.2.2.1) I.hok h2
    exact ⟨o3, its3, n3, hk _ _ (hnew _ (by rw [h2]; exact fun y => nomatch y)) (by simp) g1, g2⟩
  · obtain ⟨od, es, ep, hod, h2, h3, h4, _, h5⟩ := hd'
    have hm : (s.heap.objs.size == sysModules) = false := beq_eq_false_iff_ne.mpr (Nat.ne_of_gt I.big)
    have rel : KT H (mrg [] (zs.map fun z => (z.2.2.1, z.2.2.2))) (PySem.storedAllH [] (zs.map fun z => (z.2.2.1, z.2.1, cv z.2.2.2))) := KT_mrg KT_zero (KT_zs fun z hzm => (hz z hzm).2)
    rw [mrg_app _ [] (by rw [List.nil_append, List.map_map]; exact nd), List.nil_append] at rel
    refine ⟨.ref s.heap.objs.size, upd H s.heap.objs.size (.dT (zs.map fun z => (z.2.2.1, z.2.2.2))), I.laid (t' := tk) (fun b o e => hk b o (by simp) e) (Nat.le_refl _) ⟨by rw [List.length_map, sizeLine_eq]; omega, hm, _, rel.keeps fun c ys ec => ?_, od, es, ep, hod, h2, h3, h4, h5⟩, rfl, q _ (I.hok.fresh (Nat.le_refl _))⟩
    rw [upd_ne (hnew c (by rw [ec]; exact fun y => nomatch y))]
    exact ec
end
end My

set_option linter.all false
namespace My
open PySem PySem.Spec PyProof.Rows L2
abbrev sLwr : Stmt := topS 29
section
variable {P : Program} {w : World} {K : PySem.W.Frag} {mg : Str → Option Value} {base : Heap}
theorem small_base {b : Int} (b0 : 2 ≤ b) (b1 : b ≤ 10) (x : Int) : CMul x b := .inr ⟨by omega, by omega⟩
theorem scLwr : FnScope ["base", "fraction", "left", "lefts", "digits", "at"] ["base", "fraction"] (defScope sLwr) := ⟨rfl, rfl, rfl, by decide +kernel, rfl, by decide +kernel, by decide +kernel⟩
def spLwr : Sp := fun vs H Q _ => ∃ (b n d : Int) (a : Addr), vs = [.int b, .ref a] ∧ H a = some (.tup [.int n, .int d]) ∧ Fra b n d ∧ ∀ S R, W0 b n d S R → ∀ (T x y : Addr) (H' : Hp), Same H H' → H' T = some (.tup [.ref x, .ref y]) → H' x = some (.tup (S.map V.int)) → H' y = some (.tup (R.map V.int)) → Q (.ref T) H'
theorem ok_lwr {f : Addr} {fd : FuncData} (F : Fun K "_law_writing" "_law_writing" sLwr f fd) (T : Tx mg) : FnOk P w K mg base CX0 1 f fd ["base", "fraction"] spLwr := by
  refine F.ok scLwr (fun vs H Q E h => ?_) (fun cdv A outer s H vs Q E hr h => ?_)
  · obtain ⟨b, n, d, a, rfl, _⟩ := h
    rfl
  · obtain ⟨b, n, d, q0, rfl, hq0, fr, k⟩ := h
    have d0 := fr.d0
    refine ⟨_, (pss_cons (ps_if (pt_cmpR (op_eqD hr.units) (pv 1) (pe_tup (pa_cons pe_int (pa_cons pe_int pa_nil))) (nomark _)) (pss_one (ps_ret (pe_tup (pa_cons (pe_tup pa_nil) (pa_cons (pe_tup (pa_cons (pe_op op_sub (pv 0) pe_int) pa_nil)) pa_nil))))) pss_nil)
      (pss_cons (ps_set (i := 2) scLwr.nd rfl (Or.inl rfl) (pe_ix ix_tup (pv 1) pe_int (fun _ _ => rfl)))
      (pss_cons (ps_set (i := 3) scLwr.nd rfl (Or.inl rfl) (pe_lst pa_nil))
      (pss_cons (ps_set (i := 4) scLwr.nd rfl (Or.inl rfl) (pe_lst pa_nil))
      (pss_cons (ps_while PassesOwn.never (pt_cmpR op_notIn_seq (pv 2) (pv 3) (by rfl)) (pss_cons (ps_expr (pe_bm PySem.F.plainAttrs_list PySem.F.slot_list_append PySem.F.type_list_append mt_append (pv 3) (pa_cons (pv 2) pa_nil)))
      (pss_cons (ps_expr (pe_bm PySem.F.plainAttrs_list PySem.F.slot_list_append PySem.F.type_list_append mt_append (pv 4) (pa_cons (pe_op op_fdivW (pe_op op_mul (pv 2) (pv 0)) (pe_ix ix_tup (pv 1) pe_int (fun _ _ => rfl))) pa_nil)))
      (pss_one (ps_set (i := 2) scLwr.nd rfl (Or.inl rfl) (pe_op op_mod (pe_op op_mul (pv 2) (pv 0)) (pe_ix ix_tup (pv 1) pe_int (fun _ _ => rfl))))))))
      (pss_cons (ps_set (i := 5) scLwr.nd rfl (Or.inl rfl) (pe_bm PySem.F.plainAttrs_list PySem.F.slot_list_index PySem.F.type_list_index mt_index (pv 3) (pa_cons (pv 2) pa_nil)))
      (pss_one (ps_ret (pe_tup (pa_cons (pe_callTy call_tuple_of (by rfl) T.tuple boot_tuple (pa_cons (pe_slice sl_list (pv 4) po_none (po_some (pv 5))) pa_nil)) (pa_cons (pe_callTy call_tuple_of (by rfl) T.tuple boot_tuple (pa_cons (pe_slice sl_list (pv 4) (po_some (pv 5)) po_none) pa_nil)) pa_nil))))))))))), ?_⟩
    refine ⟨_, rfl, by show 2 ≤ sizeLine; rw [sizeLine_eq]; decide, fun t0 nt0 => ?_⟩
    have s0 := same_upd (o := .tup [.int 1, .int 1]) nt0
    refine ⟨iTup [n, d], iTup [1, 1], dp_ints (l := [n, d]) (s0 _ _ hq0), dp_ints (l := [1, 1]) upd_same, shaped_iTup _, shaped_iTup _, _, rfl, ?_⟩
    rw [eqv_iTup]
    have hT := s0 _ _ hq0
    generalize upd H t0 (.tup [.int 1, .int 1]) = H0 at s0 hT ⊢
    refine ite2 (fun z => ?_) (fun z => ?_)
    · have hnd : n = d := by
        have := of_decide_eq_true z
        injection this with h1 h2
        injection h2 with h2 _
        omega
      refine ⟨by decide, fun t1 nt1 => ?_⟩
      have s1 := same_upd (o := .tup []) nt1
      refine ⟨_, rfl, _, _, rfl, rfl, (by show 1 ≤ sizeLine; decide), fun t2 nt2 => ?_⟩
      have s2 := same_upd (o := .tup [.int (b - 1)]) nt2
      refine ⟨(by show 2 ≤ sizeLine; decide), fun q nq => ?_⟩
      have s3 := same_upd (o := .tup [.ref t1, .ref t2]) nq
      exact k [] [b - 1] (.inl ⟨hnd, rfl, rfl⟩) q t1 t2 _ (((s0.trans s1).trans s2).trans s3) upd_same (s3 _ _ (s2 _ _ upd_same)) (s3 _ _ upd_same)
    · have hnd : n ≠ d := fun q => by
        subst q
        have g := fr.gc
        rw [Nat.gcd_self] at g
        have : n = 1 := by omega
        subst this
        exact z (decide_eq_true rfl)
      have a := fr.ask hnd
      refine ⟨_, rfl, q0, _, 0, _, rfl, rfl, SqT.of hT, rfl, ?_⟩
      refine ⟨by decide, fun lr nlr => ?_⟩
      refine ⟨by decide, fun ld nld => ?_⟩
      have pl : lr ≠ ld := ne_of_none upd_same nld
      have n0 : H0 ld = none := (Same.upd (o := .lst []) nlr).free nld
      refine ⟨fun μ σ H2 => ∃ i : Nat, μ + i = 1101 ∧ σ = [some (.int b), some (.ref q0), some (.int (rs b d n i)), some (.ref lr), some (.ref ld), none] ∧ H2 ld = some (.lst ((dl b d n i).map V.int)) ∧ H2 lr = some (.lst ((rl b d n i).map V.int)) ∧
        (∀ x y, x < y → y < i → rs b d n x ≠ rs b d n y) ∧ Same H0 H2,
        ⟨1101, 0, rfl, rfl, upd_same, by rw [upd_ne pl]; exact upd_same, (fun _ _ _ z => nomatch z), (Same.upd nlr).trans (Same.upd nld)⟩, ?_⟩
      rintro μ σ H2 ⟨i, hμ, rfl, hl, hr2, inj, sm⟩
      have i1 : i ≤ 1000 := soon_le a.soon inj
      refine ⟨_, rfl, _, rfl, lr, _, rfl, .inl (SqL.of hr2), rfl, flat_ints _, _, rfl, ?_⟩
      rw [inV_int]
      by_cases hm : rs b d n i ∈ rl b d n i
      · refine ifF (by rw [decide_eq_true hm]; rfl) ?_
        obtain ⟨k0, hk0, ek⟩ := rl_mem.mp hm
        have dv : Dv b d n i k0 := ⟨hk0, ek.symm, inj⟩
        refine ⟨_, rfl, .inl ⟨rfl, _, SqL.of hr2⟩, _, rfl, lr, _, .int (rs b d n i), k0, .int (rs b d n k0), rfl, rfl, SqL.of hr2, rfl, flat_ints _, (by rw [List.getElem?_map, rl_get hk0]; rfl), (by show (rs b d n k0 == rs b d n i) = true; rw [ek]; exact beq_self_eq_true _), ?_, ?_⟩
        · intro m z' hm' hz'
          rw [List.getElem?_map, rl_get (by omega)] at hz'
          obtain rfl : V.int (rs b d n m) = z' := Option.some.inj hz'
          show (rs b d n m == rs b d n i) = false
          rw [← ek]
          exact beq_eq_false_iff_ne.mpr (inj m k0 hm' hk0)
        · refine ⟨_, rfl, _, rfl, (k0 : Int), rfl, ld, _, rfl, SqL.of hl, fun p1 np1 => ?_⟩
          rw [cut_take]
          have s1 := same_upd (o := .lst (((dl b d n i).take k0).map V.int)) np1
          refine ⟨p1, _, rfl, .inl ⟨SqL.of upd_same, fun t1 nt1 => ?_⟩⟩
          have s2 := same_upd (o := .tup (((dl b d n i).take k0).map V.int)) nt1
          refine ⟨_, rfl, _, rfl, (k0 : Int), rfl, ld, _, rfl, SqL.of (s2 _ _ (s1 _ _ hl)), fun p2 np2 => ?_⟩
          rw [cut_drop]
          have s3 := same_upd (o := .lst (((dl b d n i).drop k0).map V.int)) np2
          refine ⟨p2, _, rfl, .inl ⟨SqL.of upd_same, fun t2 nt2 => ?_⟩⟩
          have s4 := same_upd (o := .tup (((dl b d n i).drop k0).map V.int)) nt2
          refine ⟨(by show 2 ≤ sizeLine; decide), fun q nq => ?_⟩
          have s5 := same_upd (o := .tup [.ref t1, .ref t2]) nq
          exact k _ _ (.inr ⟨hnd, i, k0, dv, rfl, rfl⟩) q t1 t2 _ ((((((s0.trans sm).trans s1).trans s2).trans s3).trans s4).trans s5) upd_same (s5 _ _ (s4 _ _ (s3 _ _ upd_same))) (s5 _ _ upd_same)
      · refine ifT (by rw [decide_eq_false hm]; rfl) ⟨fun σ' H' => ∃ m', m' < μ ∧ ∃ i : Nat, m' + i = 1101 ∧ σ' = [some (.int b), some (.ref q0), some (.int (rs b d n i)), some (.ref lr), some (.ref ld), none] ∧ H' ld = some (.lst ((dl b d n i).map V.int)) ∧ H' lr = some (.lst ((rl b d n i).map V.int)) ∧
          (∀ x y, x < y → y < i → rs b d n x ≠ rs b d n y) ∧ Same H0 H', fun σ' H' q => q, ?_⟩
        have new : ∀ j, j < i → rs b d n j ≠ rs b d n i := fun j hj z => hm (rl_mem.mpr ⟨j, hj, z⟩)
        refine ⟨_, rfl, .inl ⟨rfl, _, SqL.of hr2⟩, _, rfl, lr, _, _, rfl, rfl, hr2, (by rw [List.length_map, rl_len, sizeLine_eq]; omega), ?_⟩
        have up2 : ∀ c o, c ≠ lr → c ≠ ld → H2 c = some o → upd H2 lr (.lst ((rl b d n i).map V.int ++ [.int (rs b d n i)])) c = some o := fun c o h1 _ e => by rw [upd_ne h1]; exact e
        have hl2 : upd H2 lr (.lst ((rl b d n i).map V.int ++ [.int (rs b d n i)])) ld = some (.lst ((dl b d n i).map V.int)) := by rw [upd_ne pl.symm]; exact hl
        have hq2 := sm _ _ hT
        have q0r : q0 ≠ lr := fun z => by rw [z, hr2] at hq2; cases hq2
        have q0d : q0 ≠ ld := fun z => by rw [z, hl] at hq2; cases hq2
        refine ⟨_, rfl, .inl ⟨rfl, _, SqL.of hl2⟩, _, rfl, _, rfl, _, _, rfl, rfl, small_base a.b0 a.b1 _, _, rfl, q0, _, 1, _, rfl, rfl, SqT.of (up2 _ _ q0r q0d hq2), rfl, _, _, rfl, rfl, wide_div d0 a.dz (by decide) (by decide), ld, _, _, rfl, rfl, hl2, (by rw [List.length_map, dl_len, sizeLine_eq]; omega), ?_⟩
        refine ⟨_, rfl, _, rfl, _, _, rfl, rfl, small_base a.b0 a.b1 _, _, rfl, q0, _, 1, _, rfl, rfl, SqT.of (by rw [upd_ne q0d]; exact up2 _ _ q0r q0d hq2), rfl, _, _, rfl, rfl, d0, ?_⟩
        refine ⟨1101 - (i + 1), by omega, i + 1, by omega, rfl, ?_, ?_, ?_, ?_⟩
        · rw [upd_same, dl_succ, List.map_append]; rfl
        · rw [upd_ne pl, upd_same, rl_succ, List.map_append]; rfl
        · intro x y hxy hy
          rcases Nat.lt_or_ge y i with q | q
          · exact inj x y hxy q
          · have : y = i := by omega
            subst this
            exact new x hxy
        · intro c o hc
          rw [upd_ne (ne_of_none hc n0), upd_ne (ne_of_none hc nlr)]
          exact sm c o hc
end
end My

set_option linter.all false
namespace My
open PySem PySem.Spec PyProof.Rows L2
abbrev sSpot : Stmt := topS 36
structure SpotOk (b n d : Int) : Prop where
  fr : Fra b n d
  len : ∀ S R, W0 b n d S R → S.length + R.length ≤ 8
  d100 : d ≤ 100
theorem rs_back {b n d : Int} {u v : Nat} (n0 : 0 ≤ n) (nd : n < d) (uv : u < v) (h : d ∣ b ^ u * (b ^ (v - u) - 1)) : rs b d n u = rs b d n v := by
  rw [rs_mod n0 nd, rs_mod n0 nd]
  refine (Int.emod_eq_emod_iff_emod_sub_eq_zero.mpr ?_).symm
  have e : n * b ^ v - n * b ^ u = n * (b ^ u * (b ^ (v - u) - 1)) := by
    rw [show b ^ v = b ^ u * b ^ (v - u) by rw [← Int.pow_add]; congr 1; omega, Int.mul_sub (b ^ u), Int.mul_one, Int.mul_sub]
  rw [e]
  exact Int.emod_eq_zero_of_dvd (Int.dvd_trans h ⟨n, Int.mul_comm _ _⟩)
theorem w0_len {b n d : Int} {u v : Nat} (n0 : 0 ≤ n) (nd : n ≤ d) (uv : u < v) (h : d ∣ b ^ u * (b ^ (v - u) - 1)) {S R : List Int} (w : W0 b n d S R) : S.length + R.length ≤ v ∧ R ≠ [] := by
  rcases w with ⟨e, rfl, rfl⟩ | ⟨e, m, k, dv, rfl, rfl⟩
  · exact ⟨by show 0 + 1 ≤ v; omega, fun z => by cases z⟩
  · have r := rs_back (b := b) n0 (by omega) uv h
    have mv : m ≤ v := by
      rcases Nat.lt_or_ge v m with c | c
      · exact absurd r (dv.inj u v uv c)
      · exact c
    have := dv.lt
    refine ⟨by rw [List.length_take, List.length_drop, dl_len]; omega, fun z => ?_⟩
    have := congrArg List.length z
    rw [List.length_drop, dl_len] at this
    simp at this
    omega
theorem spot_of {b n d : Int} {u v : Nat} (b0 : 2 ≤ b) (b1 : b ≤ 10) (n0 : 0 ≤ n) (nd : n ≤ d) (d0 : 0 < d) (d1 : d ≤ 100) (g : Nat.gcd n.natAbs d.natAbs = 1) (uv : u < v) (v8 : v ≤ 8) (h : d ∣ b ^ u * (b ^ (v - u) - 1)) : SpotOk b n d :=
  ⟨⟨b0, b1, n0, nd, d0, Nat.lt_of_le_of_lt (show d.natAbs ≤ 100 by omega) (Nat.lt_of_lt_of_le (show 100 < 2 ^ 7 by decide) (Nat.pow_le_pow_right (by decide) (by decide))), fun ne => ⟨u, v, uv, by omega, rs_back n0 (by omega) uv h⟩, g⟩, fun S R w => Nat.le_trans (w0_len n0 nd uv h w).1 v8, d1⟩
def SpB (b : Int) : Prop := b = 2 ∨ b = 3 ∨ b = 4 ∨ b = 5 ∨ b = 10
theorem SpB.two {b : Int} (h : SpB b) : 2 ≤ b ∧ b ≤ 10 := by unfold SpB at h; omega
theorem spot_c {b u : Int} (hb : SpB b) (hu : u = b + 1 ∨ u = b - 1 ∨ u = b * b - 1 ∨ u = 2 * b ∨ u = 3 ∨ u = 7) : 2 ≤ (if (if u > 2 then u else 2) < 99 then (if u > 2 then u else 2) else 99) ∧ (if (if u > 2 then u else 2) < 99 then (if u > 2 then u else 2) else 99) ≤ 99 ∧ (if (if u > 2 then u else 2) < 99 then (if u > 2 then u else 2) else 99) ∣ b ^ 2 * (b ^ (8 - 2) - 1) := by
  rcases hb with rfl | rfl | rfl | rfl | rfl <;> rcases hu with rfl | rfl | rfl | rfl | rfl | rfl <;> decide
theorem spot_w {b n d : Int} (hb : SpB b) (h : (n = 0 ∧ d = 1) ∨ (n = 1 ∧ d = 1) ∨ (n = 1 ∧ d = b) ∨ (n = b - 1 ∧ d = b) ∨ (n = 1 ∧ d = b * b)) : SpotOk b n d := by
  obtain ⟨b0, b1⟩ := hb.two
  have key : 0 ≤ n ∧ n ≤ d ∧ 0 < d ∧ d ≤ 100 ∧ Nat.gcd n.natAbs d.natAbs = 1 ∧ d ∣ b ^ 2 * (b ^ (8 - 2) - 1) := by
    rcases hb with rfl | rfl | rfl | rfl | rfl <;> rcases h with ⟨rfl, rfl⟩ | ⟨rfl, rfl⟩ | ⟨rfl, rfl⟩ | ⟨rfl, rfl⟩ | ⟨rfl, rfl⟩ <;> decide
  obtain ⟨k1, k2, k3, k4, k5, k6⟩ := key
  exact spot_of b0 b1 k1 k2 k3 k4 k5 (by decide) (by decide) k6
theorem spot_l {b m c : Int} (hb : SpB b) (m0 : 0 ≤ m) (mc : m ≤ c) (c2 : 2 ≤ c) (c99 : c ≤ 99) (h : c ∣ b ^ 2 * (b ^ (8 - 2) - 1)) : SpotOk b (lowP m c).1 (lowP m c).2 := by
  obtain ⟨b0, b1⟩ := hb.two
  have c0 : 0 < c := by omega
  have p := low_pos (a := m) c0
  have x := low_cross (a := m) c0
  have g := gL_pos (a := m) c0
  obtain ⟨l1, l2⟩ := low_mul (a := m) (d := c)
  have n0 : 0 ≤ (lowP m c).1 := Int.ediv_nonneg m0 (Int.le_of_lt g)
  have dle : (lowP m c).2 ≤ c := by
    have := Int.mul_le_mul_of_nonneg_left (show (1 : Int) ≤ gL m c by omega) (Int.le_of_lt p)
    rw [Int.mul_one, l2] at this
    exact this
  have nd : (lowP m c).1 ≤ (lowP m c).2 := by
    have h1 : (lowP m c).1 * gL m c ≤ (lowP m c).2 * gL m c := by rw [l1, l2]; exact mc
    exact Int.le_of_mul_le_mul_right h1 g
  exact spot_of b0 b1 n0 nd p (by omega) (low_cop c0) (by decide) (by decide) (Int.dvd_trans ⟨gL m c, l2.symm⟩ h)
section
variable {P : Program} {w : World} {K : PySem.W.Frag} {mg : Str → Option Value} {base : Heap}
structure TxSp (mg : Str → Option Value) : Prop where
  min : mg "min" = none
  max : mg "max" = none
theorem scSpot : FnScope ["pen", "base", "way", "below"] ["pen", "base"] (defScope sSpot) := ⟨rfl, rfl, rfl, by decide +kernel, rfl, by decide +kernel, by decide +kernel⟩
def spSpot : Sp := fun vs H Q _ => ∃ (p c : Addr) (b : Int) (t : Nat), vs = [.ref p, .int b] ∧ SpB b ∧ PenD H p c t ∧ t + 10 < 2 ^ 29 ∧ ∀ (n d : Int) (T : Addr) (H' : Hp), SpotOk b n d → But p H H' → PenD H' p c (t + 3) → H' T = some (.tup [.int n, .int d]) → Q (.ref T) H'
theorem ok_spot {f fT fOn fLo : Addr} {fd fdT fdOn fdLo : FuncData} (F : Fun K "_law_drawn_spot" "_law_drawn_spot" sSpot f fd) (T : TxSp mg)
    (FT : Fun K "_law_draw" "_law_draw" sDraw fT fdT) (GT : FnOk P w K mg base CX0 2 fT fdT ["pen", "many"] spDraw) (bT : Binds K fdT ["pen", "many"] []) (gT : mg "_law_draw" = some (.ref fT))
    (FOn : Fun K "_law_one_of" "_law_one_of" sOneOf fOn fdOn) (GOn : FnOk P w K mg base CX0 3 fOn fdOn ["pen", "some"] spOneOf) (bOn : Binds K fdOn ["pen", "some"] []) (gOn : mg "_law_one_of" = some (.ref fOn))
    (FLo : Fun K "_law_lowest" "_law_lowest" sLow fLo fdLo) (GLo : FnOk P w K mg base CX0 1 fLo fdLo ["top", "below"] spLow) (bLo : Binds K fdLo ["top", "below"] []) (gLo : mg "_law_lowest" = some (.ref fLo)) : FnOk P w K mg base CX0 4 f fd ["pen", "base"] spSpot := by
  refine F.ok scSpot (fun vs H Q E h => ?_) (fun cdv A outer s H vs Q E hr h => ?_)
  · obtain ⟨p, c, b, t, rfl, _⟩ := h
    rfl
  · obtain ⟨p, c, b, t, rfl, hb, C, tt, k⟩ := h
    have hr3 : Room 3 _ := hr.mono (by decide)
    have hr2 : Room 2 _ := hr.mono (by decide)
    have hr1 : Room 1 _ := hr.mono (by decide)
    obtain ⟨b0, b1⟩ := hb.two
    have bw : b.natAbs < 2 ^ 8 := Nat.lt_of_le_of_lt (show b.natAbs ≤ 10 by omega) (by decide)
    refine ⟨_, (pss_cons (ps_set (i := 2) scSpot.nd rfl (Or.inl rfl) ((pe_call GT hr2 (by rfl) gT FT.kp bT .nil pass0 (pa_cons (pv 0) (pa_cons pe_int pa_nil)))))
      (pss_cons (ps_if (pt_cmpR op_eq (pv 2) pe_int (nomark _)) (pss_one (ps_ret ((pe_call GOn hr3 (by rfl) gOn FOn.kp bOn .nil pass0 (pa_cons (pv 0) (pa_cons (pe_lstS (pa_cons (pe_tupS (pa_cons pe_int (pa_cons pe_int pa_nil))) (pa_cons (pe_tupS (pa_cons pe_int (pa_cons pe_int pa_nil))) (pa_cons (pe_tupS (pa_cons pe_int (pa_cons (pv 1) pa_nil))) (pa_cons (pe_tupS (pa_cons (pe_op op_sub (pv 1) pe_int) (pa_cons (pv 1) pa_nil))) (pa_cons (pe_tupS (pa_cons pe_int (pa_cons (pe_op op_mulW (pv 1) (pv 1)) pa_nil))) pa_nil)))))) pa_nil)))))) pss_nil)
      (pss_cons (ps_set (i := 3) scSpot.nd rfl (Or.inl rfl) ((pe_call GOn hr3 (by rfl) gOn FOn.kp bOn .nil pass0 (pa_cons (pv 0) (pa_cons (pe_lstS (pa_cons (pe_op op_add (pv 1) pe_int) (pa_cons (pe_op op_sub (pv 1) pe_int) (pa_cons (pe_op op_sub (pe_op op_mulW (pv 1) (pv 1)) pe_int) (pa_cons (pe_op op_mulW pe_int (pv 1)) (pa_cons pe_int (pa_cons pe_int pa_nil))))))) pa_nil)))))
      (pss_cons (ps_set (i := 3) scSpot.nd rfl (Or.inl rfl) (pe_callB (call_min2 rfl) (by rfl) T.min boot_min (pa_cons pe_int (pa_cons (pe_callB (call_max2 rfl) (by rfl) T.max boot_max (pa_cons pe_int (pa_cons (pv 3) pa_nil))) pa_nil))))
      (pss_one (ps_ret (pe_call GLo hr1 (by rfl) gLo FLo.kp bLo .nil pass0 (pa_cons ((pe_call GT hr2 (by rfl) gT FT.kp bT .nil pass0 (pa_cons (pv 0) (pa_cons (pe_op op_add (pv 3) pe_int) pa_nil)))) (pa_cons (pv 3) pa_nil))))))))), ?_⟩
    have np : H p ≠ none := C.some
    refine ⟨_, rfl, p, c, 4, t, rfl, by decide, by decide, C, by omega, fun m H1 m0 m1 bt1 C1 => ?_⟩
    refine ⟨_, rfl, rfl, _, rfl, ite2 (fun z => ?_) (fun z => ?_)⟩
    · refine ⟨_, rfl, by show 2 ≤ sizeLine; rw [sizeLine_eq]; decide, fun t1 H2 s2 g2 => ?_⟩
      refine ⟨by show 2 ≤ sizeLine; rw [sizeLine_eq]; decide, fun t2 H3 s3 g3 => ?_⟩
      refine ⟨_, rfl, by show 2 ≤ sizeLine; rw [sizeLine_eq]; decide, fun t3 H4 s4 g4 => ?_⟩
      refine ⟨_, rfl, _, _, rfl, rfl, _, rfl, by show 2 ≤ sizeLine; rw [sizeLine_eq]; decide, fun t4 H5 s5 g5 => ?_⟩
      refine ⟨_, rfl, _, rfl, _, _, rfl, rfl, wide_mul bw bw (by decide) (by decide) (by decide), by show 2 ≤ sizeLine; rw [sizeLine_eq]; decide, fun t5 H6 s6 g6 => ?_⟩
      refine ⟨by show 5 ≤ sizeLine; rw [sizeLine_eq]; decide, fun l H7 s7 nl g7 => ?_⟩
      have s17 := ((((s2.trans s3).trans s4).trans s5).trans s6).trans s7
      have C7 := C1.same s17 (Nat.le_refl _)
      have np7 : H7 p ≠ none := C7.some
      have np6 : H6 p ≠ none := (C1.same ((((s2.trans s3).trans s4).trans s5).trans s6) (Nat.le_refl _)).some
      refine ⟨p, c, t + 1, .ref l, rfl, C7, by omega, .inl ⟨l, _, rfl, fun z => np6 (by rw [← z]; exact nl), g7, by simp, by simp, fun v H8 hv bt8 C8 => ?_⟩⟩
      have bt : But p H H8 := (bt1.trans (But.of s17)).trans bt8
      have C8' := C8.same (Same.refl _) (show t + 1 + 1 ≤ t + 3 by omega)
      have go : ∀ (tt : Addr) (n d : Int), H7 tt = some (.tup [.int n, .int d]) → SpotOk b n d → Q (.ref tt) H8 := fun tt n d e so => by
        have ne : tt ≠ p := fun z => by
          obtain ⟨cells, x, y, z', h1, _⟩ := C7.ex
          rw [z, h1] at e; cases e
        exact k n d tt H8 so bt C8' (bt8 _ _ ne e)
      simp only [List.mem_cons, List.not_mem_nil, or_false] at hv
      rcases hv with rfl | rfl | rfl | rfl | rfl
      · exact go t1 0 1 (s7 _ _ (s6 _ _ (s5 _ _ (s4 _ _ (s3 _ _ g2))))) (spot_w hb (.inl ⟨rfl, rfl⟩))
      · exact go t2 1 1 (s7 _ _ (s6 _ _ (s5 _ _ (s4 _ _ g3)))) (spot_w hb (.inr (.inl ⟨rfl, rfl⟩)))
      · exact go t3 1 b (s7 _ _ (s6 _ _ (s5 _ _ g4))) (spot_w hb (.inr (.inr (.inl ⟨rfl, rfl⟩))))
      · exact go t4 (b - 1) b (s7 _ _ (s6 _ _ g5)) (spot_w hb (.inr (.inr (.inr (.inl ⟨rfl, rfl⟩)))))
      · exact go t5 1 (b * b) (s7 _ _ g6) (spot_w hb (.inr (.inr (.inr (.inr ⟨rfl, rfl⟩)))))
    · refine ⟨_, rfl, _, rfl, _, _, rfl, rfl, _, rfl, _, _, rfl, rfl, _, rfl, _, rfl, _, _, rfl, rfl, wide_mul bw bw (by decide) (by decide) (by decide), _, _, rfl, rfl, _, rfl, _, _, rfl, rfl, wide_mul (show ((2 : Int)).natAbs < 2 ^ 8 by decide) bw (by decide) (by decide) (by decide), ?_⟩
      refine ⟨by show 6 ≤ sizeLine; rw [sizeLine_eq]; decide, fun l H2 s2 nl g2 => ?_⟩
      have C2 := C1.same s2 (Nat.le_refl _)
      refine ⟨p, c, t + 1, .ref l, rfl, C2, by omega, .inl ⟨l, _, rfl, fun z => C1.some (by rw [← z]; exact nl), g2, by simp, by simp, fun v H3 hv bt3 C3 => ?_⟩⟩
      have bt := (bt1.trans (But.of s2)).trans bt3
      obtain ⟨u, rfl, hu⟩ : ∃ u, v = .int u ∧ (u = b + 1 ∨ u = b - 1 ∨ u = b * b - 1 ∨ u = 2 * b ∨ u = 3 ∨ u = 7) := by
        simp only [List.mem_cons, List.not_mem_nil, or_false] at hv
        rcases hv with rfl | rfl | rfl | rfl | rfl | rfl
        · exact ⟨_, rfl, .inl rfl⟩
        · exact ⟨_, rfl, .inr (.inl rfl)⟩
        · exact ⟨_, rfl, .inr (.inr (.inl rfl))⟩
        · exact ⟨_, rfl, .inr (.inr (.inr (.inl rfl)))⟩
        · exact ⟨_, rfl, .inr (.inr (.inr (.inr (.inl rfl))))⟩
        · exact ⟨_, rfl, .inr (.inr (.inr (.inr (.inr rfl))))⟩
      obtain ⟨c2, c99, cd⟩ := spot_c hb hu
      refine ⟨_, rfl, _, _, rfl, _, _, rfl, ?_⟩
      generalize (if (if u > 2 then u else 2) < 99 then (if u > 2 then u else 2) else 99) = lo at c2 c99 cd ⊢
      refine ⟨_, rfl, _, rfl, _, _, rfl, rfl, p, c, lo + 1, t + 2, rfl, by omega, Nat.lt_of_le_of_lt (show (lo + 1).natAbs ≤ 100 by omega) (Nat.lt_of_lt_of_le (show 100 < 2 ^ 7 by decide) (Nat.pow_le_pow_right (by decide) (by decide))), C3, by omega, fun y H4 y0 y1 bt4 C4 => ?_⟩
      refine ⟨_, rfl, y, lo, rfl, by omega, Nat.lt_of_le_of_lt (show lo.natAbs ≤ 100 by omega) (Nat.lt_of_lt_of_le (show 100 < 2 ^ 7 by decide) (Nat.pow_le_pow_right (by decide) (by decide))), fun q nq => ?_⟩
      exact k _ _ q _ (spot_l hb y0 (by omega) c2 c99 cd) ((bt.trans bt4).trans (But.of (same_upd nq))) (C4.same (same_upd nq) (Nat.le_refl _)) upd_same
end
end My

set_option linter.all false
namespace My
open PySem PySem.Spec PyProof.Rows L2
abbrev sSp : Stmt := topS 33
/-! ### a comprehension whose items are told by tuples -/
def KpT (H H' : Hp) : Prop := ∀ c xs, H c = some (.tup xs) → H' c = some (.tup xs)
theorem KpT.of {H H' : Hp} (e : Same H H') : KpT H H' := fun c xs h => e _ _ h
theorem lc_pr {J : It} {n : Nat} {G : Hp → Prop} {Y : Nat → Hp → V → Hp → Prop} (w : Walk J n G Y) {g : TG} {tt : TT} {te : TE} {vs : List Nat} {σ : L2.St} {H1 : Hp} {D : Addr} {Qd : Hp → Prop} (Pr : Nat → V → Hp → Prop) (mono : ∀ i v H H', KpT H H' → Pr i v H → Pr i v H') (nD : H1 D = none) (hn : n ≤ sizeLine) (hG : ∀ H, Same H1 H → G H)
    (hs : ∀ i x H H', i < n → Same H1 H → Y i H x H' → ∀ (Q : VK) (R : Hp → Prop), (∀ v H4, Same H H4 → Pr i v H4 → Q v H4) → g x (wipe σ vs) H' fun σ2 H2 => wipe σ2 vs = wipe σ vs ∧ tt σ2 H2 fun b H3 => if b = true then te σ2 H3 Q else R H3)
    (hd : ∀ H us, Same H1 H → H D = some (.lst us) → us.length = n → (∀ i v, us[i]? = some v → Pr i v H) → Qd H) :
    ∃ W : Nat → Nat → Hp → Prop, (∃ m, W 0 m (upd H1 D (.lst []))) ∧ ∀ i m H, W i m H →
      (J.stop i H ∧ Qd H) ∨ (J.go i H ∧ ∃ Nx : Hp → Prop, (∀ H', Nx H' → ∃ m', m' < m ∧ W (i + 1) m' H') ∧ ∀ x H', J.yld i H x H' → g x (wipe σ vs) H' fun σ2 H2 => wipe σ2 vs = wipe σ vs ∧ tt σ2 H2 fun b H3 =>
        if b = true then te σ2 H3 fun y H4 => ∃ acc, H4 D = some (.lst acc) ∧ acc.length < sizeLine ∧ Nx (upd H4 D (.lst (acc ++ [y]))) else Nx H3) := by
  refine lc_it w (fun i H => Same H1 H ∧ ∃ us : List V, H D = some (.lst us) ∧ us.length = i ∧ ∀ (j : Nat) (v : V), us[j]? = some v → Pr j v H) ⟨fun a o e => ?_, [], upd_same, rfl, fun j v h => by simp at h⟩ (fun i H _ h => hG H h.1) (fun i x H H' hi ⟨sa, us, h1, h2, h3⟩ y => ?_) (fun H ⟨sa, us, h1, h2, h3⟩ => hd H us sa h1 h2 h3)
  · rw [upd_ne (fun z => by rw [z, nD] at e; cases e)]; exact e
  · refine hs i x H H' hi sa y _ _ fun v H4 s4 pv => ?_
    have kp : KpT H4 (upd H4 D (.lst (us ++ [v]))) := fun c xs e => by rw [upd_ne (fun z => by rw [z, s4 _ _ h1] at e; cases e)]; exact e
    refine ⟨_, s4 _ _ h1, by omega, fun a o e => ?_, us ++ [v], upd_same, by rw [List.length_append, h2]; rfl, fun j z hz => ?_⟩
    · rw [upd_ne (fun z => by rw [z, nD] at e; cases e)]; exact s4 _ _ (sa _ _ e)
    · rcases snoc_at hz with ⟨c, g1⟩ | ⟨c, rfl⟩
      · exact mono _ _ _ _ kp (mono _ _ _ _ (KpT.of s4) (h3 j z g1))
      · rw [c, h2]; exact mono _ _ _ _ kp pv
theorem choose_n {α : Type} {Pr : Nat → α → Prop} : ∀ n, (∀ i, i < n → ∃ a, Pr i a) → ∃ l : List α, l.length = n ∧ ∀ (i : Nat) (a : α), l[i]? = some a → Pr i a
  | 0, _ => ⟨[], rfl, fun i a h => by simp at h⟩
  | n + 1, h => by
    obtain ⟨l, h1, h2⟩ := choose_n n fun i hi => h i (by omega)
    obtain ⟨a, ha⟩ := h n (Nat.lt_succ_self n)
    refine ⟨l ++ [a], by rw [List.length_append, h1]; rfl, fun i y hy => ?_⟩
    rcases snoc_at hy with ⟨c, g⟩ | ⟨c, rfl⟩
    · exact h2 i y g
    · rw [c, h1]; exact ha
theorem list_by {α β : Type} (f : α → β) {l : List α} {us : List β} (h1 : us.length = l.length) (h : ∀ (i : Nat) (a : α), l[i]? = some a → us[i]? = some (f a)) : us = l.map f := by
  refine List.ext_getElem? fun i => ?_
  rw [List.getElem?_map]
  by_cases c : i < l.length
  · rw [h i _ (List.getElem?_eq_getElem c), List.getElem?_eq_getElem c]; rfl
  · rw [List.getElem?_eq_none (by omega), List.getElem?_eq_none (by omega)]; rfl
theorem paired_get {α β : Type} {R : α → β → Prop} : ∀ {xs : List α} {ys : List β}, Paired R xs ys → xs.length = ys.length ∧ ∀ (i : Nat) (x : α) (y : β), xs[i]? = some x → ys[i]? = some y → R x y
  | _, _, .nil => ⟨rfl, fun i x y h => by simp at h⟩
  | _, _, .cons h t => by
    obtain ⟨l, g⟩ := paired_get t
    refine ⟨by rw [List.length_cons, List.length_cons, l], fun i x y h1 h2 => ?_⟩
    cases i with
    | zero => cases h1; cases h2; exact h
    | succ i => exact g i x y (by simpa using h1) (by simpa using h2)
/-! ### the law's book: names in order, rows by names -/
structure BkD (H : Hp) (rr : Addr) (ns : List Str) (Rw : List (List Ent)) : Prop where
  ex : ∃ (od : Obj) (kvs : List (Key × V)) (qs : List Addr), H rr = some (.frz od (.dK kvs)) ∧ kvs.map (·.1) = ns.map Sum.inr ∧ kvs.map (·.2) = qs.map V.ref ∧ ∀ (i : Nat) (q : Addr) (es : List Ent), qs[i]? = some q → Rw[i]? = some es → RowT H q es
  nod : ns.Nodup
  len : ns.length = Rw.length
theorem BkD.same {H H' : Hp} {rr : Addr} {ns : List Str} {Rw : List (List Ent)} (h : BkD H rr ns Rw) (s : Same H H') : BkD H' rr ns Rw := by
  obtain ⟨od, kvs, qs, h1, h2, h3, h4⟩ := h.ex
  exact ⟨⟨od, kvs, qs, s _ _ h1, h2, h3, fun i q es g1 g2 => (h4 i q es g1 g2).same s⟩, h.nod, h.len⟩
theorem BkD.get {H : Hp} {rr : Addr} {ns : List Str} {Rw : List (List Ent)} (h : BkD H rr ns Rw) {x : Str} (hx : x ∈ ns) : ∃ q, DGet H rr (.str x) (some (.ref q)) ∧ RowT H q (rowOf ns Rw x) ∧ Rw[ns.idxOf x]? = some (rowOf ns Rw x) := by
  obtain ⟨od, kvs, qs, h1, h2, h3, h4⟩ := h.ex
  have hi := idx_lt hx
  have hr : Rw[ns.idxOf x]? = some (rowOf ns Rw x) := by
    unfold rowOf
    rw [List.getElem?_eq_getElem (by rw [← h.len]; exact hi), getD_at (List.getElem?_eq_getElem (by rw [← h.len]; exact hi))]
  have l1 : kvs.length = ns.length := by have := congrArg List.length h2; rwa [List.length_map, List.length_map] at this
  have l2 : kvs.length = qs.length := by have := congrArg List.length h3; rwa [List.length_map, List.length_map] at this
  have hq := List.getElem?_eq_getElem (show ns.idxOf x < qs.length by omega)
  generalize qs[ns.idxOf x] = q at hq
  have e1 : (kvs[ns.idxOf x]'(by omega)).1 = Sum.inr x := by
    have := congrArg (fun l => l[ns.idxOf x]?) h2
    simp only [List.getElem?_map, idx_get hx, List.getElem?_eq_getElem (show ns.idxOf x < kvs.length by omega)] at this
    exact Option.some.inj this
  have e2 : (kvs[ns.idxOf x]'(by omega)).2 = V.ref q := by
    have := congrArg (fun l => l[ns.idxOf x]?) h3
    simp only [List.getElem?_map, hq, List.getElem?_eq_getElem (show ns.idxOf x < kvs.length by omega)] at this
    exact Option.some.inj this
  refine ⟨q, .inl ⟨kvs, Sum.inr x, .inr ⟨od, h1⟩, rfl, ?_⟩, h4 _ _ _ hq hr, hr⟩
  refine (valV_mem (by rw [h2]; exact inr_nodup h.nod) ?_).symm
  rw [← e1, ← e2]
  exact List.getElem_mem _
section
variable {ns : List Str} {Rw : List (List Ent)} {b : Int} {B : Nat} {digs : List Int} {r0 : Nat}
abbrev AwN (ns : List Str) (Rw : List (List Ent)) (digs : List Int) (r0 : Nat) (x : Str) (k : Nat) : Prop := Rg.Aw (Rf (rowsR ns Rw)) digs r0 (ns.idxOf x) k
theorem rf_row (h : BkOk b ns Rw B) {x : Str} (hx : x ∈ ns) : Rf (rowsR ns Rw) (ns.idxOf x) = triS ns (wholeS Rw) (rowOf ns Rw x) := by
  refine getD_at ?_
  rw [List.getElem?_map, rowOf_at h hx]; rfl
theorem aw_off (h : BkOk b ns Rw B) {x : Str} (hx : x ∈ ns) {e : Ent} (he : e ∈ rowOf ns Rw x) {k : Nat} (ne : e.1 ≠ digs.getD k 0) : AwN ns Rw digs r0 x k :=
  .off (e := (e.1, ns.idxOf e.2.1, e.2.2.1 * ((wholeS Rw : Int) / e.2.2.2))) (by rw [rf_row h hx]; exact List.mem_map.mpr ⟨e, he, rfl⟩) ne
theorem aw_on (h : BkOk b ns Rw B) {x : Str} (hx : x ∈ ns) {e : Ent} (he : e ∈ rowOf ns Rw x) {k : Nat} (a : AwN ns Rw digs r0 e.2.1 (Rg.pl digs.length r0 (k + 1))) : AwN ns Rw digs r0 x k :=
  .on (e := (e.1, ns.idxOf e.2.1, e.2.2.1 * ((wholeS Rw : Int) / e.2.2.2))) (by rw [rf_row h hx]; exact List.mem_map.mpr ⟨e, he, rfl⟩) a
theorem ent_in (h : BkOk b ns Rw B) {x : Str} (hx : x ∈ ns) {e : Ent} (he : e ∈ rowOf ns Rw x) : e.2.1 ∈ ns := ((h.ent.row _ (rowOf_mem h hx)).2 e he).2.2.1
theorem aw_closed (h : BkOk b ns Rw B) (S : Str → Nat → Prop) (hS : ∀ x k, S x k → x ∈ ns ∧ ∀ e ∈ rowOf ns Rw x, e.1 = digs.getD k 0 ∧ S e.2.1 (Rg.pl digs.length r0 (k + 1))) : ∀ i k, Rg.Aw (Rf (rowsR ns Rw)) digs r0 i k → ∀ x, ns.idxOf x = i → S x k → False := by
  intro i k a
  induction a with
  | @off i k e he ne =>
    rintro x rfl s
    obtain ⟨hx, q⟩ := hS x k s
    rw [rf_row h hx] at he
    obtain ⟨e0, h0, rfl⟩ := List.mem_map.mp he
    exact ne (q e0 h0).1
  | @on i k e he _ ih =>
    rintro x rfl s
    obtain ⟨hx, q⟩ := hS x k s
    rw [rf_row h hx] at he
    obtain ⟨e0, h0, rfl⟩ := List.mem_map.mp he
    exact ih e0.2.1 rfl (q e0 h0).2
end
/-! ### pairs of name and place -/
abbrev Pr := Str × Nat
abbrev dtv (ks : List Pr) : List (List Key × V) := ks.map fun p => (qk p, V.bl true)
theorem dtv_map (h : List Key → Int) (x : Str) (l : List Nat) : (dtv (l.map fun k => (x, k))).map (fun p => h p.1) = l.map fun a => h (qk (x, a)) := by
  simp only [dtv, List.map_map, Function.comp_def]
theorem dtv_apart {P : Program} {w : World} (x : Str) {m : Nat} (hm : m ≤ 100) : ((dtv ((List.range m).map fun k => (x, k))).map fun p => tupleKeyHash (mixKind P w) p.1).Nodup := by
  rw [dtv_map (tupleKeyHash (mixKind P w)) x (List.range m)]
  exact qk_apart List.nodup_range fun a ha => by have := List.mem_range.mp ha; omega
theorem dtv_keys (ks : List Pr) : (dtv ks).map (·.1) = ks.map qk := by rw [List.map_map]; rfl
theorem qk_nod {ks : List Pr} (h : ks.Nodup) : (ks.map qk).Nodup := List.Pairwise.map _ (fun a b ne z => ne (qk_inj z)) h
theorem dtv_val {ks : List Pr} (p : Pr) : (valV (dtv ks) (qk p)).isSome = decide (p ∈ ks) := by
  rw [← valV_any]
  by_cases c : p ∈ ks
  · rw [decide_eq_true c, List.any_eq_true]
    exact ⟨(qk p, .bl true), List.mem_map.mpr ⟨p, c, rfl⟩, decide_eq_true rfl⟩
  · rw [decide_eq_false c, List.any_eq_false]
    intro y hy z
    obtain ⟨q, hq, rfl⟩ := List.mem_map.mp hy
    exact c (by rw [← qk_inj (of_decide_eq_true z)]; exact hq)
theorem dtv_some {ks : List Pr} {p : Pr} (h : p ∈ ks) : ∃ v, valV (dtv ks) (qk p) = some v := by
  have := dtv_val (ks := ks) p
  rw [decide_eq_true h] at this
  exact Option.isSome_iff_exists.mp this
theorem dtv_drop (ks : List Pr) (p : Pr) : dropK (dtv ks) (qk p) = dtv (ks.filter fun q => decide (q ≠ p)) := by
  unfold dropK dtv
  rw [List.filter_map]
  congr 1
  refine List.filter_congr fun q _ => ?_
  show decide (qk q ≠ qk p) = decide (q ≠ p)
  by_cases c : q = p
  · rw [c]; simp
  · have c1 : q ≠ p := c
    have c2 : qk q ≠ qk p := fun z => c (qk_inj z)
    rw [decide_eq_true c1, decide_eq_true c2]
def allP (m : Nat) (xs : List Str) : List Pr := xs.flatMap fun x => (List.range m).map fun k => (x, k)
theorem mem_allP {m : Nat} {xs : List Str} {p : Pr} : p ∈ allP m xs ↔ p.1 ∈ xs ∧ p.2 < m := by
  unfold allP
  rw [List.mem_flatMap]
  constructor
  · rintro ⟨x, hx, h⟩
    obtain ⟨k, hk, rfl⟩ := List.mem_map.mp h
    exact ⟨hx, List.mem_range.mp hk⟩
  · rintro ⟨h1, h2⟩
    exact ⟨p.1, h1, List.mem_map.mpr ⟨p.2, List.mem_range.mpr h2, rfl⟩⟩
theorem allP_snoc (m : Nat) (xs : List Str) (x : Str) : allP m (xs ++ [x]) = allP m xs ++ (List.range m).map fun k => (x, k) := by
  unfold allP
  rw [List.flatMap_append, List.flatMap_cons, List.flatMap_nil, List.append_nil]
theorem one_nod (m : Nat) (x : Str) : ((List.range m).map fun k => ((x, k) : Pr)).Nodup := List.Pairwise.map _ (fun a b ne z => ne (by injection z)) List.nodup_range
theorem allP_nod {m : Nat} {xs : List Str} (h : xs.Nodup) : (allP m xs).Nodup := by
  induction xs with
  | nil => exact List.Pairwise.nil
  | cons x xs ih =>
    obtain ⟨h1, h2⟩ := List.nodup_cons.mp h
    show ((List.range m).map (fun k => ((x, k) : Pr)) ++ allP m xs).Nodup
    refine List.nodup_append.mpr ⟨one_nod m x, ih h2, fun p hp q hq e => h1 ?_⟩
    obtain ⟨k, _, rfl⟩ := List.mem_map.mp hp
    rw [← e] at hq
    exact (mem_allP.mp hq).1
theorem allP_len (m : Nat) (xs : List Str) : (allP m xs).length = xs.length * m := by
  induction xs with
  | nil => show 0 = 0 * m; rw [Nat.zero_mul]
  | cons x xs ih =>
    show ((List.range m).map (fun k => ((x, k) : Pr)) ++ allP m xs).length = _
    rw [List.length_append, ih, List.length_map, List.length_range, List.length_cons, Nat.add_mul, Nat.one_mul, Nat.add_comm]
def plcs (m r0 : Nat) : List Int := (List.range m).map fun k => ((Rg.pl m r0 (k + 1) : Nat) : Int)
end My

set_option linter.all false
namespace My
open PySem PySem.Spec PyProof.Rows L2
/-- from pairs that all stay, digits go on by such -/
def ClP (ns : List Str) (Rw : List (List Ent)) (digs : List Int) (r0 : Nat) (ks : List Pr) : Prop := ∀ p ∈ ks, ∀ e ∈ rowOf ns Rw p.1, e.1 = digs.getD p.2 0 ∧ (e.2.1, Rg.pl digs.length r0 (p.2 + 1)) ∈ ks
section
variable {P : Program} {w : World} {K : PySem.W.Frag} {mg : Str → Option Value} {base : Heap}
structure TgP (mg : Str → Option Value) : Prop where
  len : mg "len" = none
  range : mg "range" = none
  list : mg "list" = none
  dict : mg "dict" = none
theorem scSp : FnScope ["rows", "digits", "places", "found", "name", "at", "size", "away", "digit", "other", "share"] ["rows", "digits", "places"] (defScope sSp) := ⟨rfl, rfl, rfl, by decide +kernel, rfl, by decide +kernel, by decide +kernel⟩
def spSp : Sp := fun vs H Q _ => ∃ (rr dg pa : Addr) (b : Int) (ns : List Str) (Rw : List (List Ent)) (B : Nat) (digs : List Int) (r0 : Nat), vs = [.ref rr, .ref dg, .ref pa] ∧ BkD H rr ns Rw ∧ BkOk b ns Rw B ∧ H dg = some (.tup (digs.map V.int)) ∧ H pa = some (.lst ((plcs digs.length r0).map V.int)) ∧ r0 < digs.length ∧ digs.length ≤ 20 ∧
  ∀ (f : Addr) (ks : List Pr) (H' : Hp), Same H H' → H' f = some (.dT (dtv ks)) → ks.Nodup → (∀ x k, (x, k) ∈ ks ↔ x ∈ ns ∧ k < digs.length ∧ ¬ AwN ns Rw digs r0 x k) → Q (.ref f) H'
set_option maxHeartbeats 1000000 in
theorem ok_sp {f : Addr} {fd : FuncData} (F0 : Fun K "_law_sure_pairs" "_law_sure_pairs" sSp f fd) (T : TgP mg) : FnOk P w K mg base CX0 1 f fd ["rows", "digits", "places"] spSp := by
  refine F0.ok scSp (fun vs H Q E h => ?_) (fun cdv A outer s0 H vs Q E hr h => ?_)
  · obtain ⟨rr, dg, pa, b, ns, Rw, B, digs, r0, rfl, _⟩ := h
    rfl
  · obtain ⟨rr, dg, pa, b, ns, Rw, B, digs, r0, rfl, BD, BO, hdg, hpa, hr0, m20, k⟩ := h
    have hu1 := Nat.lt_trans (Nat.add_lt_add_left (show 1 < 64 by decide) _) hr.units
    refine ⟨_, (pss_cons (ps_set (i := 3) scSp.nd rfl (Or.inr rfl) pe_dnewT)
      (pss_cons (ps_for PassesOwn.never rfl (pi_keys (pv 0)) (pg_name (i := 4) scSp.nd rfl (Or.inr rfl)) (pss_one (ps_expr (pe_bm PySem.F.plainAttrs_dict PySem.F.slot_dict_update PySem.F.type_dict_update (mt_updT hu1) (pv 3) (pa_cons (pe_callTy (call_dictG rfl hr.units) (by rfl) T.dict boot_dict (pa_cons (pe_lc (own := [("at", 5)]) (g := gName 5) (tt := tYes) rfl scSp.nd (pi_range1 (by rfl) T.range (pa_cons (pe_callB call_len_seq (by rfl) T.len PySem.boot_len (pa_cons (pv 1) pa_nil)) pa_nil)) (blkOk_by (N := ["rows", "digits", "places", "found", "name", "at", "size", "away", "digit", "other", "share"]) (sc := defScope sSp) (by decide +kernel)) (fun _ _ _ _ _ => (pg_name (i := 5) scSp.nd rfl (Or.inl rfl))) (fun _ _ _ _ _ => pts_nil) (fun _ _ _ _ _ => (pe_tup (pa_cons (pe_tup (pa_cons (pv 4) (pa_cons (pv 5) pa_nil))) (pa_cons pe_bl pa_nil))))) pa_nil)) pa_nil)))))
      (pss_cons (ps_set (i := 6) scSp.nd rfl (Or.inl rfl) (pe_un un_neg pe_int))
      (pss_cons (ps_while PassesOwn.never (pt_cmpR op_ne (pv 6) (pe_callB call_len_dT (by rfl) T.len PySem.boot_len (pa_cons (pv 3) pa_nil)) (nomark _)) (pss_cons (ps_set (i := 6) scSp.nd rfl (Or.inl rfl) (pe_callB call_len_dT (by rfl) T.len PySem.boot_len (pa_cons (pv 3) pa_nil)))
      (pss_one (ps_for PassesOwn.never rfl (pi_list (pe_callTy (call_list_dT rfl) (by rfl) T.list boot_list (pa_cons (pv 3) pa_nil))) (pg_tup (by rfl) (pgs_cons (pg_name (i := 4) scSp.nd rfl (Or.inr rfl)) (pgs_cons (pg_name (i := 5) scSp.nd rfl (Or.inr rfl)) pgs_nil))) (pss_cons (ps_setLc (i := 7) (own := [("digit", 8), ("other", 9), ("share", 10)]) (g := gTup K 3 (gCons (gName 8) (gCons (gName 9) (gCons (gName 10) gNil)))) rfl scSp.nd rfl (by rfl) (sw_true (by rfl) (by rfl) (by rfl) (by rfl)) (pi_tup (pe_dget hu1 (pv 0) (pv 4) (fun _ _ => rfl))) (blkOk_by (N := ["rows", "digits", "places", "found", "name", "at", "size", "away", "digit", "other", "share"]) (sc := defScope sSp) (by decide +kernel)) (fun _ _ _ _ _ => (pg_tup (by rfl) (pgs_cons (pg_name (i := 8) scSp.nd rfl (Or.inl rfl)) (pgs_cons (pg_name (i := 9) scSp.nd rfl (Or.inl rfl)) (pgs_cons (pg_name (i := 10) scSp.nd rfl (Or.inl rfl)) pgs_nil))))) (fun _ _ _ _ _ => (pts_one (PW.pt (pw_or (pt_cmpR op_ne (pv 8) (pe_ix (show IxR _ (rIxT K) from ix_tup) (pv 1) (pv 5) (fun _ _ => rfl)) (nomark _)) (pw_or1 (pt_cmp (pc_dnotin hu1 (pe_tup (pa_cons (pv 9) (pa_cons (pe_ix (show IxR _ (rIxL K) from ix_list) (pv 2) (pv 5) (fun _ _ => rfl)) pa_nil))) (pv 3)))))))) (fun _ _ _ _ _ => pe_int))
      (pss_one (ps_if (pt_cmpR (op_neD hr.units) (pv 7) (pe_lst pa_nil) (nomark _)) (pss_one (ps_expr (pe_bm PySem.F.plainAttrs_dict PySem.F.slot_dict_pop PySem.F.type_dict_pop (mt_pop1 hu1) (pv 3) (pa_cons (pe_tup (pa_cons (pv 4) (pa_cons (pv 5) pa_nil))) pa_nil)))) pss_nil)))))))
      (pss_one (ps_ret (pv 3))))))), ?_⟩
    obtain ⟨od, kvs, qs, h1, h2, h3, h4⟩ := BD.ex
    have n6 : ns.length ≤ 6 := by rw [BO.nlen]; exact BO.len
    have lk : kvs.length = ns.length := by have := congrArg List.length h2; rwa [List.length_map, List.length_map] at this
    have big : ∀ ks : List Pr, ks.Nodup → (∀ p ∈ ks, p.1 ∈ ns ∧ p.2 < digs.length) → ks.length ≤ 120 := fun ks nd h => by
      have := List.Nodup.length_le_of_subset nd (l₂ := allP digs.length ns) (fun p hp => mem_allP.mpr (h p hp))
      rw [allP_len] at this
      exact Nat.le_trans this (Nat.mul_le_mul n6 m20)
    refine fun F nF => ?_
    have sF := same_upd (o := .dT []) nF
    refine ⟨_, rfl, rr, od, rfl, .inl ⟨kvs, sF _ _ h1, ?_⟩⟩
    refine for_it (walk_keys (d := rr) (o := od) (kvs := kvs)) (fun j σ Ho => Same H Ho ∧ ∃ y4 : Option V, σ = [some (.ref rr), some (.ref dg), some (.ref pa), some (.ref F), y4, none, none, none, none, none, none] ∧ Ho F = some (.dT (dtv (allP digs.length (ns.take j))))) ?_ ?_ ?_ ?_
    · exact ⟨sF, _, rfl, upd_same⟩
    · exact fun i σ Ho _ z => z.1 _ _ h1
    · rintro j x σ Ho0 Ho hj ⟨sa, y4, rfl, hF⟩ ⟨rfl, kk, vv, hk, rfl⟩
      obtain ⟨x, hx⟩ : ∃ x, ns[j]? = some x := ⟨ns[j]'(by omega), List.getElem?_eq_getElem _⟩
      obtain rfl : kk = Sum.inr x := by
        have := congrArg (fun l => l[j]?) h2
        simp only [List.getElem?_map, hx, hk] at this
        exact Option.some.inj this
      have tk : ns.take (j + 1) = ns.take j ++ [x] := by rw [List.take_add_one, hx]; rfl
      refine ⟨_, rfl, .inr (.inr (.inl ⟨rfl, .inr ⟨_, hF⟩⟩)), ?_⟩
      refine ⟨_, rfl, dg, _, rfl, .inr (SqT.of (sa _ _ hdg)), ?_⟩
      rw [show (digs.map V.int).length = digs.length from List.length_map _]
      refine ⟨digs.length, rfl, by omega, by omega, fun D nD => ?_⟩
      rw [Int.toNat_natCast]
      refine lc_pr (walk_range (lo := 0) (n := digs.length)) (fun i v Hx => ∃ t t2 : Addr, v = .ref t ∧ Hx t = some (.tup [.ref t2, .bl true]) ∧ Hx t2 = some (.tup ((qk (x, i)).map kV))) (fun i v Ha Hb kp ⟨t, t2, e, g1, g2⟩ => ⟨t, t2, e, kp _ _ g1, kp _ _ g2⟩) nD (by rw [sizeLine_eq]; omega) (fun _ _ => trivial) (fun i y Ha Hb hi sb yy Q2 R2 q2 => ?_) fun H3 us s3 hD lus hus => ?_
      · obtain ⟨rfl, rfl⟩ := yy
        dsimp only
        rw [show V.int (0 + (i : Int)) = V.int (i : Nat) by rw [Int.zero_add]]
        refine ⟨rfl, tyes ?_⟩
        refine ⟨_, rfl, _, rfl, by show 2 ≤ sizeLine; rw [sizeLine_eq]; decide, fun p1 n1 => ⟨by show 2 ≤ sizeLine; rw [sizeLine_eq]; decide, fun p2 n2 => ?_⟩⟩
        have s1 := same_upd (o := .tup [kV (Sum.inr x), .int (i : Nat)]) n1
        have s2 := same_upd (o := .tup [.ref p1, .bl true]) n2
        exact q2 _ _ (s1.trans s2) ⟨p2, p1, rfl, upd_same, s2 _ _ upd_same⟩
      · obtain ⟨zs, lz, hz⟩ := choose_n (α := Zk) (Pr := fun i z => us[i]? = some (.ref z.1) ∧ H3 z.1 = some (.tup [.ref z.2.1, .bl true]) ∧ H3 z.2.1 = some (.tup ((qk (x, i)).map kV)) ∧ z.2.2 = (qk (x, i), V.bl true)) digs.length fun i hi => by
          obtain ⟨t, t2, e, g1, g2⟩ := hus i _ (List.getElem?_eq_getElem (show i < us.length by omega))
          exact ⟨(t, t2, qk (x, i), V.bl true), by rw [List.getElem?_eq_getElem (show i < us.length by omega), e], g1, g2, rfl⟩
        have eus : us = zs.map fun z => V.ref z.1 := list_by _ (by omega) fun i z h => (hz i z h).1
        have ekv : zs.map (fun z => (z.2.2.1, z.2.2.2)) = dtv ((List.range digs.length).map fun k => (x, k)) := by
          symm
          rw [dtv, List.map_map]
          refine List.ext_getElem? fun i => ?_
          rw [List.getElem?_map, List.getElem?_map]
          by_cases c : i < digs.length
          · rw [List.getElem?_range c, List.getElem?_eq_getElem (show i < zs.length by omega)]
            have := (hz i _ (List.getElem?_eq_getElem (show i < zs.length by omega))).2.2.2
            show some (qk (x, i), V.bl true) = some (zs[i].2.2.1, zs[i].2.2.2)
            rw [this]
          · rw [List.getElem?_eq_none (by simp; omega), List.getElem?_eq_none (by omega)]; rfl
        have ek : zs.map (fun z => z.2.2.1) = ((List.range digs.length).map fun k => ((x, k) : Pr)).map qk := by
          have := congrArg (List.map (·.1)) ekv
          rw [dtv_keys, List.map_map] at this
          exact this
        rw [eus] at hD
        have hF3 := s3 _ _ hF
        refine ⟨D, zs, rfl, SqL.of hD, by omega, fun z hzm => ?_, by rw [ek]; exact qk_nod (one_nod _ _), fun p np => ?_⟩
        · obtain ⟨i, hi, rfl⟩ := List.mem_iff_getElem.mp hzm
          obtain ⟨_, g1, g2, g3⟩ := hz i _ (List.getElem?_eq_getElem hi)
          rw [g3]
          exact ⟨g1, g2, rfl⟩
        · have s4 := same_upd (o := .dT (zs.map fun z => (z.2.2.1, z.2.2.2))) np
          have pF : F ≠ p := fun z => by rw [← z, hF3] at np; cases np
          have nd : (allP digs.length (ns.take (j + 1))).Nodup := allP_nod (List.Nodup.sublist (List.take_sublist _ _) BD.nod)
          have b1 := big _ nd fun p hp => by
            obtain ⟨a1, a2⟩ := mem_allP.mp hp
            exact ⟨List.mem_of_mem_take a1, a2⟩
          rw [tk, allP_snoc] at nd b1
          refine ⟨F, p, _, _, rfl, rfl, pF, s4 _ _ hF3, by rw [upd_same, ekv], .inr (dtv_apart x (by omega)), ?_, ?_, ?_⟩
          · rw [List.length_append] at b1
            rw [List.length_map, List.length_map]; omega
          · rw [← List.map_append]
            exact (by rw [dtv_keys]; exact qk_nod nd)
          · have nF3 : Ho F ≠ none := by rw [hF]; exact fun z => nomatch z
            refine ⟨fun c o e => ?_, _, rfl, ?_⟩
            · rw [upd_ne (fun z => by rw [z, nF] at e; cases e)]
              exact s4 _ _ (s3 _ _ (sa _ _ e))
            · rw [upd_same, tk, allP_snoc]
              unfold dtv
              rw [List.map_append]
    · rintro σ Ho ⟨sa, y4, rfl, hF⟩
      rw [lk, List.take_length] at hF
      refine ⟨_, rfl, ?_⟩
      refine ⟨fun μ σ H2 => ∃ (ks : List Pr) (sz : Int) (y4 y5 y7 : Option V), σ = [some (.ref rr), some (.ref dg), some (.ref pa), some (.ref F), y4, y5, some (.int sz), y7, none, none, none] ∧ Same H H2 ∧ H2 F = some (.dT (dtv ks)) ∧ ks.Nodup ∧ (∀ p ∈ ks, p.1 ∈ ns ∧ p.2 < digs.length) ∧ (∀ x k, x ∈ ns → k < digs.length → (x, k) ∉ ks → AwN ns Rw digs r0 x k) ∧ ((sz = (ks.length : Nat) ∧ ClP ns Rw digs r0 ks ∧ μ = 0) ∨ (sz ≠ (ks.length : Nat) ∧ μ = ks.length + 1)), ⟨_, allP digs.length ns, -1, y4, none, none, rfl, sa, hF, allP_nod BD.nod, fun p hp => mem_allP.mp hp, fun x k hx hk nm => absurd (mem_allP.mpr ⟨hx, hk⟩) nm, .inr ⟨by omega, rfl⟩⟩, ?_⟩
      rintro μ σ H2 ⟨ks, sz, y4, y5, y7, rfl, s2, hF2, nd, inb, awy, fin⟩
      have lks : (dtv ks).length = ks.length := List.length_map _
      refine ⟨_, rfl, _, rfl, F, _, rfl, hF2, rfl, _, rfl, ?_⟩
      rw [lks]
      by_cases c : sz = (ks.length : Nat)
      · refine ifF (by rw [c]; simp) ?_
        have cl : ClP ns Rw digs r0 ks := by
          rcases fin with ⟨_, q, _⟩ | ⟨q, _⟩
          · exact q
          · exact absurd c q
        refine ⟨_, rfl, k F ks H2 s2 hF2 nd fun x k => ⟨fun hm => ?_, fun ⟨h1, h2, h3⟩ => ?_⟩⟩
        · obtain ⟨h1, h2⟩ := inb _ hm
          exact ⟨h1, h2, fun a => aw_closed BO (fun x k => (x, k) ∈ ks) (fun x k hm => ⟨(inb _ hm).1, fun e he => cl _ hm e he⟩) _ _ a x rfl hm⟩
        · exact Decidable.byContradiction fun nm => h3 (awy x k h1 h2 nm)
      · have hμ : μ = ks.length + 1 := by
          rcases fin with ⟨q, _⟩ | ⟨_, q⟩
          · exact absurd q c
          · exact q
        refine ifT (by rw [decide_eq_false fun z => c (by injection z)]; rfl) ?_
        refine ⟨_, fun σ' H' h => h, ?_⟩
        refine ⟨_, rfl, F, _, rfl, hF2, ?_⟩
        rw [lks]
        refine ⟨_, rfl, F, _, rfl, .inl hF2, fun L bs nL ik => ?_⟩
        obtain ⟨lbs, gbs⟩ := paired_get ik
        rw [lks] at lbs
        have kb : ∀ (j : Nat) (bj : Addr) (p : Pr), bs[j]? = some bj → ks[j]? = some p → H2 bj = some (.tup (qv p)) := fun j bj p g1 g2 => gbs j (qk p, V.bl true) bj (by rw [List.getElem?_map, g2]; rfl) g1
        have sL := same_upd (o := .lst (bs.map V.ref)) nL
        have hL := upd_same (H := H2) (a := L) (o := .lst (bs.map V.ref))
        have FL : F ≠ L := fun z => by rw [← z, hF2] at nL; cases nL
        have hF3 : upd H2 L (.lst (bs.map V.ref)) F = some (.dT (dtv ks)) := by rw [upd_ne FL]; exact hF2
        have s3 := s2.trans sL
        have kb3 := fun j bj p g1 g2 => sL _ _ (kb j bj p g1 g2)
        generalize upd H2 L (.lst (bs.map V.ref)) = H3 at s3 hL hF3 kb3 ⊢
        refine ⟨L, rfl, ⟨_, SqL.of hL⟩, ?_⟩
        refine for_it (walk_list (K := K) (a := L) (xs := bs.map V.ref)) (fun j σ Hj => ∃ (ks' : List Pr) (y4 y5 y7 : Option V), σ = [some (.ref rr), some (.ref dg), some (.ref pa), some (.ref F), y4, y5, some (.int (ks.length : Nat)), y7, none, none, none] ∧ Same H Hj ∧ Hj L = some (.lst (bs.map V.ref)) ∧ (∀ (i : Nat) (bj : Addr) (p : Pr), bs[i]? = some bj → ks[i]? = some p → Hj bj = some (.tup (qv p))) ∧ Hj F = some (.dT (dtv ks')) ∧ ks'.Nodup ∧ (∀ p ∈ ks', p ∈ ks) ∧ (∀ p ∈ ks, p ∉ ks' → AwN ns Rw digs r0 p.1 p.2) ∧ (∀ i p, j ≤ i → ks[i]? = some p → p ∈ ks') ∧ (ks'.length < ks.length ∨ (ks' = ks ∧ ∀ i p, i < j → ks[i]? = some p → ∀ e ∈ rowOf ns Rw p.1, e.1 = digs.getD p.2 0 ∧ (e.2.1, Rg.pl digs.length r0 (p.2 + 1)) ∈ ks))) ?_ ?_ ?_ ?_
        · exact ⟨ks, _, _, _, rfl, s3, hL, kb3, hF3, nd, (fun p hp => hp), (fun p h1 h2 => absurd h1 h2), (fun i p _ g => List.mem_of_getElem? g), .inr ⟨rfl, fun i p h => absurd h (Nat.not_lt_zero _)⟩⟩
        · exact fun i σ Hj _ ⟨_, _, _, _, _, _, h, _⟩ => SqL.of h
        · rintro j x σ Hj0 Hj hj ⟨ks', y4, y5, y7, rfl, sj, hLj, kbj, hFj, nd', sub, aw', rest, fin'⟩ ⟨rfl, hx⟩
          obtain ⟨bj, hbj, rfl⟩ := at_ref hx
          rw [List.length_map] at hj
          obtain ⟨p, hp⟩ : ∃ p, ks[j]? = some p := ⟨ks[j]'(by omega), List.getElem?_eq_getElem _⟩
          have pks := List.mem_of_getElem? hp
          obtain ⟨pn, pm⟩ := inb p pks
          have hbt := kbj j bj p hbj hp
          refine ⟨bj, _, rfl, SqT.of hbt, rfl, _, _, rfl, _, _, rfl, rfl, ?_⟩
          obtain ⟨q, dg1, rT, _⟩ := (BD.same sj).get pn
          obtain ⟨ts, ss, r1, r2, r3, r4⟩ := id rT
          refine ⟨_, rfl, _, rfl, rr, _, rfl, dg1, ?_⟩
          refine ⟨q, rfl, ⟨_, SqT.of r1⟩, fun D nD => ?_⟩
          obtain ⟨es, hes⟩ : ∃ es, rowOf ns Rw p.1 = es := ⟨_, rfl⟩
          rw [hes] at r2 r3 r4
          have el : es.length ≤ 12 := by rw [← hes]; exact (BO.ent.row _ (rowOf_mem BO pn)).1
          have lt : (ts.map V.ref).length = es.length := by rw [List.length_map, r2]
          refine lc_gen (walk_tup (K := K) (a := q) (xs := ts.map V.ref)) (fun i => !decide ((es.getD i (0, "", 0, 0)).1 = digs.getD p.2 0 ∧ ((es.getD i (0, "", 0, 0)).2.1, Rg.pl digs.length r0 (p.2 + 1)) ∈ ks')) (fun _ => .int 1) nD (by rw [lt, sizeLine_eq]; omega) (fun Hc sc => SqT.of (sc _ _ r1)) (fun i y Ha Hb hi sb yy Q2 R2 q2 rr2 => ?_) fun H5 s5 hD => ?_
          · obtain ⟨rfl, hy⟩ := yy
            obtain ⟨ti, hti, rfl⟩ := at_ref hy
            rw [lt] at hi
            have hei := List.getElem?_eq_getElem hi
            obtain ⟨si, hsi⟩ : ∃ s, ss[i]? = some s := ⟨ss[i]'(by omega), List.getElem?_eq_getElem _⟩
            obtain ⟨k1, k2⟩ := r4 i ti si _ hti hsi hei
            rw [getD_at hei] at q2 rr2
            generalize es[i] = e at hei k1 k2 q2 rr2
            refine ⟨ti, _, rfl, SqT.of (sb _ _ k1), rfl, _, _, rfl, _, _, rfl, _, _, rfl, rfl, rfl, ?_⟩
            have hdgb := sb _ _ (sj _ _ hdg)
            have atd : atI (digs.map V.int) ((p.2 : Nat) : Int) = some (.int (digs.getD p.2 0)) := atI_nat (by rw [List.getElem?_map, List.getElem?_eq_getElem pm, getD_at (List.getElem?_eq_getElem pm)]; rfl)
            refine ⟨_, rfl, _, rfl, _, rfl, dg, _, _, _, rfl, rfl, SqT.of hdgb, atd, rfl, _, rfl, ?_⟩
            by_cases c1 : e.1 = digs.getD p.2 0
            · refine ifF (by rw [c1]; simp) ?_
              have atp : atI ((plcs digs.length r0).map V.int) ((p.2 : Nat) : Int) = some (.int (Rg.pl digs.length r0 (p.2 + 1) : Nat)) := atI_nat (by unfold plcs; rw [List.getElem?_map, List.getElem?_map, List.getElem?_range pm]; rfl)
              refine ⟨_, rfl, _, rfl, _, rfl, pa, _, _, _, rfl, rfl, SqL.of (sb _ _ (sj _ _ hpa)), atp, by show 2 ≤ sizeLine; rw [sizeLine_eq]; decide, fun p1 n1 => ?_⟩
              have s1 := same_upd (o := .tup [.str e.2.1, .int (Rg.pl digs.length r0 (p.2 + 1) : Nat)]) n1
              refine ⟨_, rfl, F, _, rfl, DGet.t (k := qk (e.2.1, Rg.pl digs.length r0 (p.2 + 1))) (s1 _ _ (sb _ _ hFj)) upd_same, ?_⟩
              rw [dtv_val]
              refine ⟨_, rfl, ?_⟩
              by_cases c2 : (e.2.1, Rg.pl digs.length r0 (p.2 + 1)) ∈ ks'
              · rw [decide_eq_true c2]
                refine ifF rfl (rr2 (by rw [decide_eq_true ⟨c1, c2⟩]; rfl) _ s1)
              · rw [decide_eq_false c2]
                refine ifT rfl (q2 (by rw [decide_eq_false fun z => c2 z.2]; rfl) _ s1)
            · refine ifT (by rw [decide_eq_false fun z => c1 (by injection z)]; rfl) ?_
              refine ifT rfl (q2 (by rw [decide_eq_false fun z => c1 z.1]; rfl) _ (Same.refl _))
          · rw [lt] at hD
            have ok_iff : (List.range es.length).filter (fun i => !decide ((es.getD i (0, "", 0, 0)).1 = digs.getD p.2 0 ∧ ((es.getD i (0, "", 0, 0)).2.1, Rg.pl digs.length r0 (p.2 + 1)) ∈ ks')) = [] ↔ ∀ e ∈ es, e.1 = digs.getD p.2 0 ∧ (e.2.1, Rg.pl digs.length r0 (p.2 + 1)) ∈ ks' := by
              rw [List.filter_eq_nil_iff]
              constructor
              · intro h e he
                obtain ⟨i, hi, rfl⟩ := List.mem_iff_getElem.mp he
                have := h i (List.mem_range.mpr hi)
                rw [getD_at (List.getElem?_eq_getElem hi)] at this
                simpa using this
              · intro h i hi
                have hi := List.mem_range.mp hi
                have := h _ (List.getElem_mem hi)
                rw [getD_at (List.getElem?_eq_getElem hi)]
                simpa using this
            obtain ⟨fl, hfl⟩ : ∃ fl, (List.range es.length).filter (fun i => !decide ((es.getD i (0, "", 0, 0)).1 = digs.getD p.2 0 ∧ ((es.getD i (0, "", 0, 0)).2.1, Rg.pl digs.length r0 (p.2 + 1)) ∈ ks')) = fl := ⟨_, rfl⟩
            rw [hfl, show fl.map (fun _ => V.int 1) = (fl.map fun _ => (1 : Int)).map V.int by rw [List.map_map]; rfl] at hD
            rw [hfl] at ok_iff
            refine ⟨_, rfl, by show 0 ≤ sizeLine; exact Nat.zero_le _, fun p1 n1 => ?_⟩
            have s1 := same_upd (o := .lst []) n1
            refine ⟨iLst (fl.map fun _ => (1 : Int)), iLst [], dpl_ints (s1 _ _ hD), dpl_ints (l := []) upd_same, shaped_iLst _, shaped_iLst _, _, rfl, ?_⟩
            rw [eqv_iLst]
            have s15 := s5.trans s1
            have hF6 := s15 _ _ hFj
            have hL6 := s15 _ _ hLj
            have kb6 := fun i b p g1 g2 => s15 _ _ (kbj i b p g1 g2)
            have sj6 := sj.trans s15
            generalize upd H5 p1 (.lst []) = H6 at s1 s15 hF6 hL6 kb6 sj6 ⊢
            by_cases c : fl = []
            · refine ifF (by rw [c]; rfl) ?_
              have okp := ok_iff.mp c
              refine ⟨ks', _, _, _, rfl, sj6, hL6, kb6, hF6, nd', sub, aw', (fun i p hi g => rest i p (by omega) g), ?_⟩
              rcases fin' with z | ⟨z1, z2⟩
              · exact .inl z
              · refine .inr ⟨z1, fun i p2 hi g e he => ?_⟩
                by_cases ij : i = j
                · subst ij
                  rw [hp] at g
                  obtain rfl := Option.some.inj g
                  rw [hes] at he
                  have := okp e he
                  rw [z1] at this
                  exact this
                · exact z2 i p2 (by omega) g e he
            · refine ifT (by
                rw [decide_eq_false]
                · rfl
                · intro z
                  cases fl with
                  | nil => exact c rfl
                  | cons y r => cases z) ?_
              have pk' := rest j p (Nat.le_refl _) hp
              obtain ⟨v0, hv0⟩ := dtv_some pk'
              refine ⟨_, rfl, .inr (.inr (.inl ⟨rfl, .inr ⟨_, hF6⟩⟩)), _, rfl, _, rfl, by show 2 ≤ sizeLine; rw [sizeLine_eq]; decide, fun p2 n2 => ?_⟩
              have s2' := same_upd (o := .tup [.str p.1, .int (p.2 : Nat)]) n2
              refine ⟨F, _, qk p, p2, v0, rfl, rfl, s2' _ _ hF6, upd_same, hv0, ?_⟩
              rw [dtv_drop]
              have hL7 := s2' _ _ hL6
              have kb7 := fun i b p g1 g2 => s2' _ _ (kb6 i b p g1 g2)
              have sj7 := sj6.trans s2'
              have hF7 := s2' _ _ hF6
              generalize upd H6 p2 (.tup [.str p.1, .int (p.2 : Nat)]) = H7 at hL7 kb7 sj7 hF7 ⊢
              have noF : ∀ c o, c ≠ F → H7 c = some o → upd H7 F (.dT (dtv (ks'.filter fun q => decide (q ≠ p)))) c = some o := fun c o h e => by rw [upd_ne h]; exact e
              refine ⟨ks'.filter fun q => decide (q ≠ p), _, _, _, rfl, fun c o e => noF c o (fun z => by rw [z, nF] at e; cases e) (sj7 _ _ e), noF _ _ (fun z => by rw [z, hF7] at hL7; cases hL7) hL7, fun i b p g1 g2 => noF _ _ (fun z => by have := kb7 i b p g1 g2; rw [z, hF7] at this; cases this) (kb7 i b p g1 g2), upd_same, nd'.filter _, fun x hx => sub x (List.mem_filter.mp hx).1, fun x hx nx => ?_, fun i x hi g => ?_, .inl ?_⟩
              · by_cases xp : x = p
                · subst xp
                  have : ¬ ∀ e ∈ es, e.1 = digs.getD x.2 0 ∧ (e.2.1, Rg.pl digs.length r0 (x.2 + 1)) ∈ ks' := fun z => c (ok_iff.mpr z)
                  obtain ⟨e, he, ne⟩ : ∃ e, e ∈ es ∧ ¬ (e.1 = digs.getD x.2 0 ∧ (e.2.1, Rg.pl digs.length r0 (x.2 + 1)) ∈ ks') := by
                    refine Classical.byContradiction fun z => this fun e he => Classical.byContradiction fun y => z ⟨e, he, y⟩
                  rw [← hes] at he
                  by_cases d1 : e.1 = digs.getD x.2 0
                  · have d2 : (e.2.1, Rg.pl digs.length r0 (x.2 + 1)) ∉ ks' := fun z => ne ⟨d1, z⟩
                    refine aw_on BO pn he ?_
                    by_cases d3 : (e.2.1, Rg.pl digs.length r0 (x.2 + 1)) ∈ ks
                    · exact aw' _ d3 d2
                    · refine awy _ _ (ent_in BO pn he) ?_ d3
                      unfold Rg.pl; split <;> omega
                  · exact aw_off BO pn he d1
                · exact aw' x hx fun z => nx (List.mem_filter.mpr ⟨z, by simpa using xp⟩)
              · refine List.mem_filter.mpr ⟨rest i x (by omega) g, ?_⟩
                have : x ≠ p := fun z => by
                  rw [z] at g
                  have := (List.getElem?_inj (List.getElem?_eq_some_iff.mp hp).1 nd).mp (hp.trans g.symm)
                  omega
                simpa using this
              · have h1 : (ks'.filter fun q => decide (q ≠ p)).length < ks'.length := List.length_filter_lt_length_iff_exists.mpr ⟨p, pk', by simp⟩
                have h2 := List.Nodup.length_le_of_subset nd' (l₂ := ks) sub
                omega
        · rintro σ Hj ⟨ks', y4, y5, y7, rfl, sj, hLj, kbj, hFj, nd', sub, aw', rest, fin'⟩
          rw [List.length_map, ← lbs] at fin'
          have aw2 : ∀ x k, x ∈ ns → k < digs.length → (x, k) ∉ ks' → AwN ns Rw digs r0 x k := fun x k hx hk nm => by
            by_cases d3 : (x, k) ∈ ks
            · exact aw' _ d3 nm
            · exact awy x k hx hk d3
          rcases fin' with z | ⟨z1, z2⟩
          · exact ⟨ks'.length + 1, by omega, ks', (ks.length : Nat), y4, y5, y7, rfl, sj, hFj, nd', (fun p hp => inb p (sub p hp)), aw2, .inr ⟨by omega, rfl⟩⟩
          · subst z1
            refine ⟨0, by omega, ks', (ks'.length : Nat), y4, y5, y7, rfl, sj, hFj, nd', (fun p hp => inb p (sub p hp)), aw2, .inl ⟨rfl, fun p hp e he => ?_, rfl⟩⟩
            obtain ⟨i, hi, rfl⟩ := List.mem_iff_getElem.mp hp
            exact z2 i _ hi (List.getElem?_eq_getElem hi) e he
end
end My

set_option linter.all false
namespace My
open PySem PySem.Spec PyProof.Rows L2
abbrev sUn : Stmt := topS 34
/-- a comprehension with a filter, its items told by tuples -/
theorem lc_prf {J : It} {n : Nat} {G : Hp → Prop} {Y : Nat → Hp → V → Hp → Prop} (w : Walk J n G Y) {g : TG} {tt : TT} {te : TE} {vs : List Nat} {σ : L2.St} {H1 : Hp} {D : Addr} {Qd : Hp → Prop} (f : Nat → Bool) (Pr : Nat → V → Hp → Prop) (mono : ∀ i v H H', KpT H H' → Pr i v H → Pr i v H') (nD : H1 D = none) (hn : n ≤ sizeLine) (hG : ∀ H, Same H1 H → G H)
    (hs : ∀ i x H H', i < n → Same H1 H → Y i H x H' → ∀ (Q : VK) (R : Hp → Prop), (f i = true → ∀ v H4, Same H H4 → Pr i v H4 → Q v H4) → (f i = false → ∀ H4, Same H H4 → R H4) → g x (wipe σ vs) H' fun σ2 H2 => wipe σ2 vs = wipe σ vs ∧ tt σ2 H2 fun b H3 => if b = true then te σ2 H3 Q else R H3)
    (hd : ∀ H (us : List V), Same H1 H → H D = some (.lst us) → us.length = ((List.range n).filter f).length → (∀ (j : Nat) (v : V) (i : Nat), us[j]? = some v → ((List.range n).filter f)[j]? = some i → Pr i v H) → Qd H) :
    ∃ W : Nat → Nat → Hp → Prop, (∃ m, W 0 m (upd H1 D (.lst []))) ∧ ∀ i m H, W i m H →
      (J.stop i H ∧ Qd H) ∨ (J.go i H ∧ ∃ Nx : Hp → Prop, (∀ H', Nx H' → ∃ m', m' < m ∧ W (i + 1) m' H') ∧ ∀ x H', J.yld i H x H' → g x (wipe σ vs) H' fun σ2 H2 => wipe σ2 vs = wipe σ vs ∧ tt σ2 H2 fun b H3 =>
        if b = true then te σ2 H3 fun y H4 => ∃ acc, H4 D = some (.lst acc) ∧ acc.length < sizeLine ∧ Nx (upd H4 D (.lst (acc ++ [y]))) else Nx H3) := by
  refine lc_it w (fun i H => Same H1 H ∧ ∃ us : List V, H D = some (.lst us) ∧ us.length = ((List.range i).filter f).length ∧ ∀ (j : Nat) (v : V) (k : Nat), us[j]? = some v → ((List.range i).filter f)[j]? = some k → Pr k v H) ⟨fun a o e => ?_, [], upd_same, rfl, fun j v k h => by simp at h⟩ (fun i H _ h => hG H h.1) (fun i x H H' hi ⟨sa, us, h1, h2, h3⟩ y => ?_) (fun H ⟨sa, us, h1, h2, h3⟩ => hd H us sa h1 h2 h3)
  · rw [upd_ne (fun z => by rw [z, nD] at e; cases e)]; exact e
  · refine hs i x H H' hi sa y _ _ (fun hf v H4 s4 pv => ?_) fun hf H4 s4 => ?_
    · have kp : KpT H4 (upd H4 D (.lst (us ++ [v]))) := fun c xs e => by rw [upd_ne (fun z => by rw [z, s4 _ _ h1] at e; cases e)]; exact e
      have er : (List.range (i + 1)).filter f = (List.range i).filter f ++ [i] := by
        rw [List.range_succ, List.filter_append, List.filter_cons, if_pos hf]; rfl
      refine ⟨_, s4 _ _ h1, ?_, fun a o e => ?_, us ++ [v], upd_same, by rw [List.length_append, h2, er, List.length_append]; rfl, fun j z k hz hk => ?_⟩
      · have := List.length_filter_le f (List.range i)
        rw [List.length_range] at this
        omega
      · rw [upd_ne (fun z => by rw [z, nD] at e; cases e)]; exact s4 _ _ (sa _ _ e)
      · rw [er] at hk
        rcases snoc_at hz with ⟨c, g1⟩ | ⟨c, rfl⟩
        · rcases snoc_at hk with ⟨c2, g2⟩ | ⟨c2, _⟩
          · exact mono _ _ _ _ kp (mono _ _ _ _ (KpT.of s4) (h3 j z k g1 g2))
          · omega
        · rcases snoc_at hk with ⟨c2, _⟩ | ⟨c2, rfl⟩
          · omega
          · exact mono _ _ _ _ kp pv
    · have er : (List.range (i + 1)).filter f = (List.range i).filter f := by
        rw [List.range_succ, List.filter_append, List.filter_cons, if_neg (by rw [hf]; decide), List.filter_nil, List.append_nil]
      refine ⟨fun a o e => s4 _ _ (sa _ _ e), us, s4 _ _ h1, by rw [h2, er], fun j z k hz hk => ?_⟩
      rw [er] at hk
      exact mono _ _ _ _ (KpT.of s4) (h3 j z k hz hk)
/-- a list of tuples of name and place -/
def PrsL (H : Hp) (a : Addr) (fs : List Pr) : Prop := ∃ as : List Addr, H a = some (.lst (as.map V.ref)) ∧ as.length = fs.length ∧ ∀ (j : Nat) (t : Addr) (p : Pr), as[j]? = some t → fs[j]? = some p → H t = some (.tup (qv p))
theorem PrsL.same {H H' : Hp} {a : Addr} {fs : List Pr} (h : PrsL H a fs) (s : Same H H') : PrsL H' a fs := by
  obtain ⟨as, h1, h2, h3⟩ := h
  exact ⟨as, s _ _ h1, h2, fun j t p g1 g2 => s _ _ (h3 j t p g1 g2)⟩
theorem plcs_split (m r0 : Nat) (hm : r0 < m) : (List.range (m - 1)).map (fun k => ((k : Nat) : Int) + 1) ++ [(r0 : Int)] = plcs m r0 := by
  obtain ⟨n, rfl⟩ : ∃ n, m = n + 1 := ⟨m - 1, by omega⟩
  unfold plcs
  rw [List.range_succ, List.map_append, Nat.add_sub_cancel]
  congr 1
  · refine List.map_congr_left fun k hk => ?_
    have hk := List.mem_range.mp hk
    rw [show Rg.pl (n + 1) r0 (k + 1) = k + 1 from if_pos (by omega)]; rfl
  · show [(r0 : Int)] = [((Rg.pl (n + 1) r0 (n + 1) : Nat) : Int)]
    rw [show Rg.pl (n + 1) r0 (n + 1) = r0 from if_neg (by omega)]
section
variable {P : Program} {w : World} {K : PySem.W.Frag} {mg : Str → Option Value} {base : Heap}
structure TgU (mg : Str → Option Value) : Prop where
  len : mg "len" = none
  range : mg "range" = none
  sorted : mg "sorted" = none
theorem scUn : FnScope ["rows", "stem", "ring", "digits", "at", "places", "surely", "free", "name"] ["rows", "stem", "ring"] (defScope sUn) := ⟨rfl, rfl, rfl, by decide +kernel, rfl, by decide +kernel, by decide +kernel⟩
def spUn : Sp := fun vs H Q _ => ∃ (rr st rg : Addr) (b : Int) (ns : List Str) (Rw : List (List Ent)) (B : Nat) (S R : List Int), vs = [.ref rr, .ref st, .ref rg] ∧ BkD H rr ns Rw ∧ BkOk b ns Rw B ∧ H st = some (.tup (S.map V.int)) ∧ H rg = some (.tup (R.map V.int)) ∧ R ≠ [] ∧ (S ++ R).length ≤ 20 ∧
  ∀ (T dg pa fr sf : Addr) (ks fs : List Pr) (H' : Hp), Same H H' → H' T = some (.tup [.ref dg, .ref pa, .ref fr, .ref sf]) → H' dg = some (.tup ((S ++ R).map V.int)) → H' pa = some (.lst ((plcs (S ++ R).length S.length).map V.int)) → H' sf = some (.dT (dtv ks)) → (∀ x k, (x, k) ∈ ks ↔ x ∈ ns ∧ k < (S ++ R).length ∧ ¬ AwN ns Rw (S ++ R) S.length x k) → PrsL H' fr fs → fs.Nodup → (∀ x k, (x, k) ∈ fs ↔ x ∈ ns ∧ k < (S ++ R).length ∧ AwN ns Rw (S ++ R) S.length x k) → Q (.ref T) H'
set_option maxHeartbeats 1000000 in
theorem ok_un {f fP : Addr} {fd fdP : FuncData} (F0 : Fun K "_law_unknowns" "_law_unknowns" sUn f fd) (T : TgU mg)
    (FP : Fun K "_law_sure_pairs" "_law_sure_pairs" sSp fP fdP) (GP : FnOk P w K mg base CX0 1 fP fdP ["rows", "digits", "places"] spSp) (bP : Binds K fdP ["rows", "digits", "places"] []) (gP : mg "_law_sure_pairs" = some (.ref fP)) : FnOk P w K mg base CX0 2 f fd ["rows", "stem", "ring"] spUn := by
  refine F0.ok scUn (fun vs H Q E h => ?_) (fun cdv A outer s0 H vs Q E hr h => ?_)
  · obtain ⟨rr, st, rg, b, ns, Rw, B, S, R, rfl, _⟩ := h
    rfl
  · obtain ⟨rr, st, rg, b, ns, Rw, B, S, R, rfl, BD, BO, hst, hrg, hR, m20, k⟩ := h
    have hr1 : Room 1 _ := hr.mono (by decide)
    have hu1 := Nat.lt_trans (Nat.add_lt_add_left (show 1 < 64 by decide) _) hr.units
    refine ⟨_, (C8.pss_cut (ps_set (i := 3) scUn.nd rfl (Or.inl rfl) (pe_op op_catA (pv 1) (pv 2)))
      (pss_cons (ps_set (i := 5) scUn.nd rfl (Or.inl rfl) (pe_op op_cat (pe_lc (own := [("at", 4)]) (g := gName 4) (tt := tYes) rfl scUn.nd (pi_range1 (by rfl) T.range (pa_cons (pe_op op_sub (pe_callB call_len_seq (by rfl) T.len PySem.boot_len (pa_cons (pv 3) pa_nil)) pe_int) pa_nil)) (blkOk_by (N := ["rows", "stem", "ring", "digits", "at", "places", "surely", "free", "name"]) (sc := defScope sUn) (by decide +kernel)) (fun _ _ _ _ _ => (pg_name (i := 4) scUn.nd rfl (Or.inl rfl))) (fun _ _ _ _ _ => pts_nil) (fun _ _ _ _ _ => (pe_op op_add (pv 4) pe_int))) (pe_lst (pa_cons (pe_callB call_len_seq (by rfl) T.len PySem.boot_len (pa_cons (pv 1) pa_nil)) pa_nil))))
      (pss_cons (ps_set (i := 6) scUn.nd rfl (Or.inr rfl) (pe_call GP hr1 (by rfl) gP FP.kp bP .nil pass0 (pa_cons (pv 0) (pa_cons (pv 3) (pa_cons (pv 5) pa_nil)))))
      (pss_cons (ps_set (i := 7) scUn.nd rfl (Or.inl rfl) (pe_lst pa_nil))
      (pss_cons (ps_for PassesOwn.never rfl (pi_range1 (by rfl) T.range (pa_cons (pe_callB call_len_seq (by rfl) T.len PySem.boot_len (pa_cons (pv 3) pa_nil)) pa_nil)) (pg_name (i := 4) scUn.nd rfl (Or.inr rfl)) (pss_one (ps_set (i := 7) scUn.nd rfl (Or.inl rfl) (pe_op op_cat (pv 7) (pe_lc (own := [("name", 8)]) (g := gName 8) rfl scUn.nd (pi_list (pe_callB (call_sortedD rfl) (by rfl) T.sorted boot_sorted (pa_cons (pv 0) pa_nil))) (blkOk_by (N := ["rows", "stem", "ring", "digits", "at", "places", "surely", "free", "name"]) (sc := defScope sUn) (by decide +kernel)) (fun _ _ _ _ _ => (pg_name (i := 8) scUn.nd rfl (Or.inl rfl))) (fun _ _ _ _ _ => (pts_one (pt_cmp (pc_dnotin hu1 (pe_tup (pa_cons (pv 8) (pa_cons (pv 4) pa_nil))) (pv 6))))) (fun _ _ _ _ _ => (pe_tup (pa_cons (pv 8) (pa_cons (pv 4) pa_nil)))))))))
      (pss_one (ps_ret (pe_tup (pa_cons (pv 3) (pa_cons (pv 5) (pa_cons (pv 7) (pa_cons (pv 6) pa_nil)))))))))))), ?_⟩
    obtain ⟨od, kvs, qs, h1, h2, h3, h4⟩ := BD.ex
    have n6 : ns.length ≤ 6 := by rw [BO.nlen]; exact BO.len
    have r0 : S.length < (S ++ R).length := by
      rw [List.length_append]
      have := List.length_pos_iff.mpr hR
      omega
    have ml : (S ++ R).length = S.length + R.length := List.length_append
    refine ⟨fun σ H' => Same H H' ∧ ∃ dg : Addr, σ = [some (.ref rr), some (.ref st), some (.ref rg), some (.ref dg), none, none, none, none, none] ∧ H' dg = some (.tup ((S ++ R).map V.int)), ?_, ?_⟩
    · refine ⟨_, rfl, _, rfl, st, rg, _, _, rfl, rfl, SqT.of hst, SqT.of hrg, by rw [List.length_map, List.length_map, sizeLine_eq]; omega, fun e => ?_, fun _ e => ?_, fun _ _ p np => ?_⟩
      · have e : S = [] := by simpa using e
        exact ⟨Same.refl _, rg, rfl, by rw [e]; exact hrg⟩
      · exact absurd (by simpa using e) hR
      · exact ⟨same_upd np, p, rfl, by rw [upd_same, List.map_append]⟩
    · rintro σ H1 ⟨s1, dg, rfl, hdg⟩
      obtain ⟨m, hm⟩ : ∃ m, (S ++ R).length = m := ⟨_, rfl⟩
      refine ⟨_, rfl, dg, _, rfl, .inr (SqT.of hdg), _, _, rfl, rfl, ?_⟩
      have l1 : ((S ++ R).map V.int).length = m := by rw [List.length_map, hm]
      rw [l1]
      have m1 : 1 ≤ m := by omega
      refine ⟨_, rfl, by omega, by omega, fun D nD => ?_⟩
      rw [show ((m : Int) - 1).toNat = m - 1 by omega]
      refine lc_gen (walk_range (lo := 0) (n := m - 1)) (fun _ => true) (fun k => .int (((k : Nat) : Int) + 1)) nD (by rw [sizeLine_eq]; omega) (fun _ _ => trivial) (fun i y Ha Hb hi sb yy Q2 R2 q2 rr2 => ?_) fun H2 s2 hD => ?_
      · obtain ⟨rfl, rfl⟩ := yy
        dsimp only
        rw [show V.int (0 + (i : Int)) = V.int (i : Nat) by rw [Int.zero_add]]
        exact ⟨rfl, tyes ⟨_, rfl, _, _, rfl, rfl, q2 rfl _ (Same.refl _)⟩⟩
      · rw [range_all _ (fun _ => true), show (List.range (m - 1)).map (fun k : Nat => V.int (((k : Nat) : Int) + 1)) = ((List.range (m - 1)).map fun k : Nat => ((k : Nat) : Int) + 1).map V.int by rw [List.map_map]; rfl] at hD
        have s12 := s1.trans s2
        refine ⟨_, rfl, st, _, rfl, .inr (SqT.of (s12 _ _ hst)), by show 1 ≤ sizeLine; rw [sizeLine_eq]; decide, fun p1 n1 => ?_⟩
        have s3 := same_upd (o := .lst [.int ((S.map V.int).length : Nat)]) n1
        refine ⟨D, p1, _, _, rfl, rfl, s3 _ _ hD, upd_same, by rw [List.length_map, List.length_map, List.length_range, sizeLine_eq]; show m - 1 + 1 ≤ _; omega, fun p2 n2 => ?_⟩
        have ep : ((List.range (m - 1)).map fun k : Nat => ((k : Nat) : Int) + 1).map V.int ++ [.int ((S.map V.int).length : Nat)] = (plcs m S.length).map V.int := by
          rw [List.length_map, ← plcs_split m S.length (by omega), List.map_append]; rfl
        rw [ep]
        have s4 := (s12.trans s3).trans (same_upd (o := .lst ((plcs m S.length).map V.int)) n2)
        have hpa := upd_same (H := upd H2 p1 (.lst [.int ((S.map V.int).length : Nat)])) (a := p2) (o := .lst ((plcs m S.length).map V.int))
        have hdg4 := same_upd (o := .lst ((plcs m S.length).map V.int)) n2 _ _ (s3 _ _ (s2 _ _ hdg))
        generalize upd (upd H2 p1 (.lst [.int ((S.map V.int).length : Nat)])) p2 (.lst ((plcs m S.length).map V.int)) = H4 at s4 hpa hdg4 ⊢
        refine ⟨_, rfl, _, rfl, _, rfl, rr, dg, p2, b, ns, Rw, B, S ++ R, S.length, rfl, BD.same s4, BO, hdg4, by rw [hm]; exact hpa, r0, m20, fun F ks H6 s6 gF ndk gm => ?_⟩
        refine ⟨by show 0 ≤ sizeLine; exact Nat.zero_le _, fun F0' nF0 => ?_⟩
        have s06 := s4.trans s6
        have s7 := same_upd (o := .lst []) nF0
        have hdg7 := s7 _ _ (s6 _ _ hdg4)
        have hpa7 := s7 _ _ (s6 _ _ hpa)
        have gF7 := s7 _ _ gF
        have s07 := s06.trans s7
        have h07 : PrsL (upd H6 F0' (.lst [])) F0' [] := ⟨[], upd_same, rfl, fun j t p g => by simp at g⟩
        generalize upd H6 F0' (.lst []) = H7 at s7 hdg7 hpa7 gF7 s07 h07 ⊢
        refine ⟨_, rfl, dg, _, rfl, .inr (SqT.of hdg7), _, rfl, by rw [l1]; omega, by rw [l1]; omega, ?_⟩
        rw [l1, Int.toNat_natCast]
        refine for_it (walk_range (lo := 0) (n := m)) (fun j σ Ho => Same H7 Ho ∧ ∃ (fr : Addr) (fs : List Pr) (y4 : Option V), σ = [some (.ref rr), some (.ref st), some (.ref rg), some (.ref dg), y4, some (.ref p2), some (.ref F), some (.ref fr), none] ∧ PrsL Ho fr fs ∧ fs.Nodup ∧ (∀ x k, (x, k) ∈ fs ↔ x ∈ ns ∧ k < j ∧ AwN ns Rw (S ++ R) S.length x k)) ?_ ?_ ?_ ?_
        · exact ⟨Same.refl _, F0', [], _, rfl, h07, List.Pairwise.nil, fun x k => ⟨fun h => by simp at h, fun h => absurd h.2.1 (Nat.not_lt_zero _)⟩⟩
        · exact fun _ _ _ _ _ => trivial
        · rintro j y σ Ho0 Ho hj ⟨sa, fr, fs, y4, rfl, hfr, nd, mem⟩ ⟨rfl, rfl⟩
          dsimp only
          rw [show V.int (0 + (j : Int)) = V.int (j : Nat) by rw [Int.zero_add]]
          have s0o := s07.trans sa
          refine ⟨_, rfl, _, rfl, rr, kvs, ns, rfl, .inr ⟨od, s0o _ _ h1⟩, h2, by omega, fun ys p perm srt np => ?_⟩
          have sp := same_upd (o := .lst (ys.map V.str)) np
          have hp := upd_same (H := Ho) (a := p) (o := .lst (ys.map V.str))
          have hfrp := hfr.same sp
          generalize upd Ho p (.lst (ys.map V.str)) = Hp2 at sp hp hfrp ⊢
          have ly : ys.length = ns.length := perm.length_eq
          have ndy : ys.Nodup := perm.nodup_iff.mpr BD.nod
          refine ⟨p, rfl, ⟨_, SqL.of hp⟩, fun D2 nD2 => ?_⟩
          refine lc_prf (walk_list (K := K) (a := p) (xs := ys.map V.str)) (fun i => !decide ((ys.getD i "", j) ∈ ks)) (fun i v Hx => ∃ t : Addr, v = .ref t ∧ Hx t = some (.tup (qv (ys.getD i "", j)))) (fun i v Ha Hb kp ⟨t, e, g⟩ => ⟨t, e, kp _ _ g⟩) nD2 (by rw [List.length_map, sizeLine_eq]; omega) (fun Hc sc => SqL.of (sc _ _ hp)) (fun i z Ha Hb hi sb yy Q2 R2 q2 rr2 => ?_) fun H9 us s9 hD2 lus hus => ?_
          · obtain ⟨rfl, hz⟩ := yy
            rw [List.length_map] at hi
            have hyi := List.getElem?_eq_getElem hi
            rw [List.getElem?_map, hyi] at hz
            obtain rfl := Option.some.inj hz
            rw [getD_at hyi] at q2 rr2
            generalize ys[i] = x at hyi q2 rr2
            refine ⟨rfl, ?_⟩
            refine ⟨_, rfl, _, rfl, by show 2 ≤ sizeLine; rw [sizeLine_eq]; decide, fun t1 nt1 => ?_⟩
            have st1 := same_upd (o := .tup [.str x, .int (j : Nat)]) nt1
            refine ⟨_, rfl, F, _, rfl, DGet.t (k := qk (x, j)) (st1 _ _ (sb _ _ (sp _ _ (sa _ _ gF7)))) upd_same, ?_⟩
            rw [dtv_val]
            refine ⟨_, rfl, ?_⟩
            by_cases c : (x, j) ∈ ks
            · rw [decide_eq_true c]
              exact ifF rfl (rr2 (by rw [decide_eq_true c]; rfl) _ st1)
            · rw [decide_eq_false c]
              refine ifT rfl ⟨_, rfl, _, rfl, by show 2 ≤ sizeLine; rw [sizeLine_eq]; decide, fun t2 nt2 => ?_⟩
              exact q2 (by rw [decide_eq_false c]; rfl) _ _ (st1.trans (same_upd nt2)) ⟨t2, rfl, upd_same⟩
          · rw [List.length_map] at lus hus
            obtain ⟨as, a1, a2, a3⟩ := hfrp.same s9
            obtain ⟨zs, hzs⟩ : ∃ zs, (List.range ys.length).filter (fun i => !decide ((ys.getD i "", j) ∈ ks)) = zs := ⟨_, rfl⟩
            rw [hzs] at lus hus
            have enew : zs.map (fun i => ((ys.getD i "", j) : Pr)) = (ys.filter fun x => !decide ((x, j) ∈ ks)).map fun x => (x, j) := by
              rw [← hzs]; exact range_filt (fun x => !decide ((x, j) ∈ ks)) (fun x => ((x, j) : Pr)) "" ys
            obtain ⟨bs, lb, hb⟩ := choose_n (α := Addr) (Pr := fun i t => us[i]? = some (.ref t) ∧ ∀ k, zs[i]? = some k → H9 t = some (.tup (qv (ys.getD k "", j)))) zs.length fun i hi => by
              obtain ⟨t, e, g⟩ := hus i _ _ (List.getElem?_eq_getElem (show i < us.length by omega)) (List.getElem?_eq_getElem hi)
              refine ⟨t, by rw [List.getElem?_eq_getElem (show i < us.length by omega), e], fun k hk => ?_⟩
              rw [List.getElem?_eq_getElem hi] at hk
              obtain rfl := Option.some.inj hk
              exact g
            have eus : us = bs.map V.ref := list_by _ (by omega) fun i t h => (hb i t h).1
            rw [eus] at hD2
            have lz : zs.length ≤ ns.length := by
              rw [← hzs, ← ly]
              exact Nat.le_trans (List.length_filter_le _ _) (by rw [List.length_range]; exact Nat.le_refl _)
            have lf : fs.length ≤ 120 := by
              have := List.Nodup.length_le_of_subset nd (l₂ := allP m ns) (fun p hp => by
                obtain ⟨q1, q2, _⟩ := (mem p.1 p.2).mp hp
                exact mem_allP.mpr ⟨q1, by omega⟩)
              rw [allP_len] at this
              have m6 : ns.length * m ≤ 6 * 20 := Nat.mul_le_mul n6 (show m ≤ 20 by omega)
              omega
            refine ⟨fr, D2, _, _, rfl, rfl, a1, hD2, by rw [List.length_map, List.length_map, lb, a2, sizeLine_eq]; omega, fun p3 n3 => ?_⟩
            have s10 := same_upd (o := .lst (as.map V.ref ++ bs.map V.ref)) n3
            refine ⟨((sa.trans sp).trans s9).trans s10, p3, fs ++ zs.map (fun i => ((ys.getD i "", j) : Pr)), _, rfl, ⟨as ++ bs, by rw [upd_same, List.map_append], by rw [List.length_append, List.length_append, a2, lb, List.length_map], fun i t q g1 g2 => ?_⟩, ?_, fun x k => ?_⟩
            · by_cases c : i < as.length
              · rw [List.getElem?_append_left c] at g1
                rw [List.getElem?_append_left (by omega)] at g2
                exact s10 _ _ (a3 i t q g1 g2)
              · rw [List.getElem?_append_right (by omega)] at g1 g2
                rw [List.getElem?_map, a2.symm] at g2
                obtain ⟨_, g⟩ := hb _ _ g1
                cases hz : zs[i - as.length]? with
                | none => rw [hz] at g2; cases g2
                | some kk =>
                  rw [hz] at g2
                  obtain rfl := Option.some.inj g2
                  exact s10 _ _ (g kk hz)
            · rw [enew]
              refine List.nodup_append.mpr ⟨nd, List.Pairwise.map _ (fun a b ne z => ne (by injection z)) (ndy.filter _), fun p hp q hq e => ?_⟩
              obtain ⟨x, _, rfl⟩ := List.mem_map.mp hq
              rw [e] at hp
              have := ((mem x j).mp hp).2.1
              omega
            · rw [enew, List.mem_append]
              constructor
              · rintro (h | h)
                · obtain ⟨q1, q2, q3⟩ := (mem x k).mp h
                  exact ⟨q1, by omega, q3⟩
                · obtain ⟨x', hx', e⟩ := List.mem_map.mp h
                  injection e with e1 e2
                  subst e1; subst e2
                  obtain ⟨g1, g2⟩ := List.mem_filter.mp hx'
                  have xn : x' ∈ ns := perm.mem_iff.mp g1
                  have nk : (x', j) ∉ ks := by simpa using g2
                  refine ⟨xn, by omega, Classical.byContradiction fun z => nk ((gm x' j).mpr ⟨xn, by omega, z⟩)⟩
              · rintro ⟨q1, q2, q3⟩
                by_cases c : k = j
                · subst c
                  refine .inr (List.mem_map.mpr ⟨x, List.mem_filter.mpr ⟨perm.mem_iff.mpr q1, ?_⟩, rfl⟩)
                  have : (x, k) ∉ ks := fun z => ((gm x k).mp z).2.2 q3
                  simpa using this
                · exact .inl ((mem x k).mpr ⟨q1, by omega, q3⟩)
        · rintro σ Ho ⟨sa, fr, fs, y4, rfl, hfr, nd, mem⟩
          refine ⟨_, rfl, _, rfl, _, rfl, _, rfl, by show 4 ≤ sizeLine; rw [sizeLine_eq]; decide, fun q nq => ?_⟩
          have sq := same_upd (o := .tup [.ref dg, .ref p2, .ref fr, .ref F]) nq
          rw [hm] at k gm
          exact k q dg p2 fr F ks fs _ ((s07.trans sa).trans sq) upd_same (sq _ _ (sa _ _ hdg7)) (sq _ _ (sa _ _ hpa7)) (sq _ _ (sa _ _ gF7)) gm (hfr.same sq) nd mem
end
end My

set_option linter.all false
namespace My
open PySem PySem.Spec PyProof.Rows L2
open Classical
/-! ### the law's system, by names and places -/
abbrev pE (W : Nat) (e : Ent) : Int := e.2.2.1 * ((W : Int) / e.2.2.2)
def nE (W : Nat) (digs : List Int) (r0 : Nat) (es : List Ent) (u v : Pr) : Int := (es.map fun e => if e.1 = digs.getD u.2 0 ∧ (e.2.1, Rg.pl digs.length r0 (u.2 + 1)) = v then pE W e else 0).sum
noncomputable def nS (wl : Bool) (ns : List Str) (Rw : List (List Ent)) (digs : List Int) (r0 : Nat) (es : List Ent) (u : Pr) : Int := (es.map fun e => if (wl = true ∧ digs.getD u.2 0 < e.1) ∨ (wl = false ∧ e.1 = digs.getD u.2 0 ∧ ¬ AwN ns Rw digs r0 e.2.1 (Rg.pl digs.length r0 (u.2 + 1))) then pE (wholeS Rw) e else 0).sum
def ixP (ns : List Str) (p : Pr) : Nat × Nat := (ns.idxOf p.1, p.2)
section
variable {wl : Bool} {b : Int} {ns : List Str} {Rw : List (List Ent)} {B : Nat} {digs : List Int} {r0 : Nat} {fs : List Pr}
theorem ixP_inj {p q : Pr} (hp : p.1 ∈ ns) (hq : q.1 ∈ ns) : ixP ns p = ixP ns q ↔ p = q := by
  constructor
  · intro h
    unfold ixP at h
    injection h with h1 h2
    obtain ⟨x, i⟩ := p
    obtain ⟨y, j⟩ := q
    dsimp only at *
    rw [(idx_eq hq).mp h1, h2]
  · rintro rfl; rfl
theorem fr_of (h : BkOk b ns Rw B) (nodn : ns.Nodup) (nd : fs.Nodup) (mem : ∀ x k, (x, k) ∈ fs ↔ x ∈ ns ∧ k < digs.length ∧ AwN ns Rw digs r0 x k) : Rg.Fr (Rf (rowsR ns Rw)) (rowsR ns Rw).length digs r0 (fs.map (ixP ns)) := by
  refine ⟨?_, fun p => ?_⟩
  · refine List.pairwise_map.mpr (List.Pairwise.imp_of_mem (R := fun a b => a ≠ b) (fun {p q} hp hq ne z => ne ?_) nd)
    exact (ixP_inj ((mem p.1 p.2).mp hp).1 ((mem q.1 q.2).mp hq).1).mp z
  · rw [List.mem_map]
    constructor
    · rintro ⟨q, hq, rfl⟩
      obtain ⟨h1, h2, h3⟩ := (mem q.1 q.2).mp hq
      exact ⟨(h.rn h1).2, h2, h3⟩
    · rintro ⟨h1, h2, h3⟩
      rw [rowsR_len, ← h.nlen] at h1
      have hx := List.getElem?_eq_getElem h1
      have ix := idx_at nodn hx
      refine ⟨(ns[p.1], p.2), (mem _ _).mpr ⟨List.getElem_mem h1, h2, ?_⟩, ?_⟩
      · show Rg.Aw _ _ _ (ns.idxOf ns[p.1]) p.2
        rw [ix]; exact h3
      · unfold ixP
        rw [ix]
theorem lE_n (h : BkOk b ns Rw B) {u v : Pr} (hu : u.1 ∈ ns) (hv : v.1 ∈ ns) : Rg.lE (Rf (rowsR ns Rw)) digs r0 (ixP ns u) (ixP ns v) = nE (wholeS Rw) digs r0 (rowOf ns Rw u.1) u v := by
  unfold Rg.lE nE
  rw [show (ixP ns u).1 = ns.idxOf u.1 from rfl, rf_row h hu]
  unfold triS
  rw [List.map_map]
  refine Rg.s_ext fun e he => ?_
  have hen := ent_in h hu he
  have e1 : (Rg.nxt digs r0 (ixP ns u) (e.1, ns.idxOf e.2.1, e.2.2.1 * ((wholeS Rw : Int) / e.2.2.2)) = ixP ns v) ↔ ((e.2.1, Rg.pl digs.length r0 (u.2 + 1)) = v) := by
    show (ixP ns (e.2.1, Rg.pl digs.length r0 (u.2 + 1)) = ixP ns v) ↔ _
    exact ixP_inj hen hv
  show (if e.1 = digs.getD u.2 0 ∧ Rg.nxt digs r0 (ixP ns u) (e.1, ns.idxOf e.2.1, e.2.2.1 * ((wholeS Rw : Int) / e.2.2.2)) = ixP ns v then _ else _) = _
  by_cases c : e.1 = digs.getD u.2 0 ∧ (e.2.1, Rg.pl digs.length r0 (u.2 + 1)) = v
  · rw [if_pos c, if_pos ⟨c.1, e1.mpr c.2⟩]
  · rw [if_neg c, if_neg fun z => c ⟨z.1, e1.mp z.2⟩]
theorem lS_n (h : BkOk b ns Rw B) {u : Pr} (hu : u.1 ∈ ns) : Rg.lS wl (Rf (rowsR ns Rw)) digs r0 (ixP ns u) = nS wl ns Rw digs r0 (rowOf ns Rw u.1) u := by
  unfold Rg.lS nS
  rw [show (ixP ns u).1 = ns.idxOf u.1 from rfl, rf_row h hu]
  unfold triS
  rw [List.map_map]
  exact Rg.s_ext fun e he => rfl
noncomputable abbrev mM (wl : Bool) (ns : List Str) (Rw : List (List Ent)) (digs : List Int) (r0 : Nat) (fs : List Pr) : Nat → Nat → Int := Rg.lM wl (Rf (rowsR ns Rw)) (wholeS Rw : Nat) digs r0 (fs.map (ixP ns))
theorem fA_n {i : Nat} {u : Pr} (hu : fs[i]? = some u) : Rg.fA (fs.map (ixP ns)) i = ixP ns u := by
  unfold Rg.fA
  rw [List.getD_eq_getElem?_getD, List.getElem?_map, hu]; rfl
theorem eP0 (A : Nat → Nat → Int) (den : Int) (i j : Nat) : eP A den 0 i j = lowP (A i j) den := by
  unfold eP dd
  rw [Dt.mS_zero, Dt.md_zero, if_neg (Nat.not_lt_zero _), Int.one_mul]
theorem mM_at (h : BkOk b ns Rw B) (nd : fs.Nodup) (inn : ∀ p ∈ fs, p.1 ∈ ns) {i j : Nat} {u v : Pr} (hu : fs[i]? = some u) (hv : fs[j]? = some v) : eP (mM wl ns Rw digs r0 fs) (wholeS Rw : Nat) 0 i j = lowP ((if v = u then (wholeS Rw : Int) else 0) - nE (wholeS Rw) digs r0 (rowOf ns Rw u.1) u v) (wholeS Rw : Nat) := by
  have hj := (List.getElem?_eq_some_iff.mp hv).1
  rw [eP0]
  congr 1
  show Rg.lM _ _ _ _ _ _ _ _ = _
  rw [Rg.lM_at (by rw [List.length_map]; exact hj), fA_n hu, fA_n hv, lE_n h (inn u (List.mem_of_getElem? hu)) (inn v (List.mem_of_getElem? hv))]
  congr 1
  by_cases c : i = j
  · subst c
    rw [hu] at hv
    rw [if_pos rfl, if_pos (Option.some.inj hv).symm]
  · rw [if_neg c, if_neg fun z => c ((List.getElem?_inj (List.getElem?_eq_some_iff.mp hu).1 nd).mp (hu.trans ((congrArg some z.symm).trans hv.symm)))]
theorem mM_last (h : BkOk b ns Rw B) (inn : ∀ p ∈ fs, p.1 ∈ ns) {i : Nat} {u : Pr} (hu : fs[i]? = some u) : eP (mM wl ns Rw digs r0 fs) (wholeS Rw : Nat) 0 i fs.length = lowP (nS wl ns Rw digs r0 (rowOf ns Rw u.1) u) (wholeS Rw : Nat) := by
  rw [eP0]
  congr 1
  have := Rg.lM_last (wl := wl) (R := Rf (rowsR ns Rw)) (W := (wholeS Rw : Nat)) (digs := digs) (r0 := r0) (free := fs.map (ixP ns)) (u := i)
  rw [List.length_map, fA_n hu, lS_n h (inn u (List.mem_of_getElem? hu))] at this
  exact this
theorem dbd_pow5 {a : Nat} : ∀ n, n ≤ 31 → Dt.dbd (2 ^ a) n ≤ 2 ^ (n * (a + 5))
  | 0, _ => by show 1 ≤ 2 ^ (0 * (a + 5)); rw [Nat.zero_mul]; exact Nat.le_refl 1
  | n + 1, h => by
    have ih := dbd_pow5 (a := a) n (by omega)
    show (n + 1) * (2 ^ a * Dt.dbd (2 ^ a) n) ≤ _
    have h8 : n + 1 ≤ 2 ^ 5 := by omega
    have := Nat.mul_le_mul h8 (Nat.mul_le_mul (Nat.le_refl (2 ^ a)) ih)
    rw [← Nat.pow_add, ← Nat.pow_add] at this
    rw [show (n + 1) * (a + 5) = 5 + (a + n * (a + 5)) by rw [Nat.add_mul]; omega]
    exact this
theorem mM_le (h : BkOk b ns Rw B) (n0 : 0 < ns.length) (i j : Nat) (fin : ∀ p ∈ fs, p.1 ∈ ns) : (mM wl ns Rw digs r0 fs i j).natAbs ≤ 2 ^ 38 := by
  have W := whole_le h.ent
  have B36 := h.B36
  have rk := h.rk
  have n0' : 0 < (rowsR ns Rw).length := by rw [rowsR_len, ← h.nlen]; exact n0
  have fa : ∀ i, (Rg.fA (fs.map (ixP ns)) i).1 < (rowsR ns Rw).length := fun i => by
    unfold Rg.fA
    rw [List.getD_eq_getElem?_getD, List.getElem?_map]
    cases e : fs[i]? with
    | none => exact n0'
    | some u => exact (h.rn (fin u (List.mem_of_getElem? e))).2
  have part : ∀ (i : Nat) (c : Tri → Prop) [DecidablePred c], 0 ≤ ((Rf (rowsR ns Rw) (Rg.fA (fs.map (ixP ns)) i).1).map fun e => if c e then e.2.2 else 0).sum ∧ ((Rf (rowsR ns Rw) (Rg.fA (fs.map (ixP ns)) i).1).map fun e => if c e then e.2.2 else 0).sum ≤ (wholeS Rw : Nat) := fun i c _ => by
    refine ⟨Rg.s_nn fun e he => ?_, ?_⟩
    · have := rk.pp _ (fa i) e he
      split <;> omega
    · have t := rk.tot _ (fa i)
      unfold Rg.tot at t
      rw [← t]
      refine Rg.s_le fun e he => ?_
      have := rk.pp _ (fa i) e he
      show (if c e then e.2.2 else 0) ≤ e.2.2
      split <;> omega
  show (Rg.lM _ _ _ _ _ _ _ _).natAbs ≤ _
  unfold Rg.lM
  split
  · have := part i (fun e => e.1 = digs.getD (Rg.fA (fs.map (ixP ns)) i).2 0 ∧ Rg.nxt digs r0 (Rg.fA (fs.map (ixP ns)) i) e = Rg.fA (fs.map (ixP ns)) j)
    unfold Rg.lE
    split <;> omega
  · split
    · have := part i (fun e => (wl = true ∧ digs.getD (Rg.fA (fs.map (ixP ns)) i).2 0 < e.1) ∨ (wl = false ∧ e.1 = digs.getD (Rg.fA (fs.map (ixP ns)) i).2 0 ∧ ¬ Rg.Aw (Rf (rowsR ns Rw)) digs r0 (Rg.nxt digs r0 (Rg.fA (fs.map (ixP ns)) i) e).1 (Rg.nxt digs r0 (Rg.fA (fs.map (ixP ns)) i) e).2))
      unfold Rg.lS
      omega
    · decide
theorem mM_sys0 (h : BkOk b ns Rw B) (n0 : 0 < ns.length) (fin : ∀ p ∈ fs, p.1 ∈ ns) (l24 : fs.length ≤ 24) : (∀ k i j, k ≤ fs.length → (Dt.mS (mM wl ns Rw digs r0 fs) k i j).natAbs < 2 ^ 1100) ∧ ∀ k, k ≤ fs.length → (Dt.md (mM wl ns Rw digs r0 fs) k).natAbs < 2 ^ 1100 := by
  have up : ∀ m, m ≤ 25 → 2 ^ (m * (38 + 5)) < 2 ^ 1100 := fun m hm => Nat.pow_lt_pow_right (by decide) (Nat.lt_of_le_of_lt (Nat.mul_le_mul_right 43 hm) (by decide))
  exact ⟨fun k i j hk => Nat.lt_of_le_of_lt (Nat.le_trans (Dt.mS_le (fun i j => mM_le h n0 i j fin) Nat.one_le_two_pow k i j) (dbd_pow5 (k + 1) (by omega))) (up _ (by omega)),
    fun k hk => Nat.lt_of_le_of_lt (Nat.le_trans (Dt.md_le (fun i j => mM_le h n0 i j fin) k) (dbd_pow5 k (by omega))) (up _ (by omega))⟩
theorem mM_sys (h : BkOk b ns Rw B) (n0 : 0 < ns.length) (fin : ∀ p ∈ fs, p.1 ∈ ns) (l24 : fs.length ≤ 24) : (∀ k i j, k ≤ fs.length → (Dt.mS (mM wl ns Rw digs r0 fs) k i j).natAbs < 2 ^ 2080) ∧ ∀ k, k ≤ fs.length → (Dt.md (mM wl ns Rw digs r0 fs) k).natAbs < 2 ^ 2080 := by
  obtain ⟨h1, h2⟩ := mM_sys0 (wl := wl) (digs := digs) (r0 := r0) h n0 fin l24
  exact ⟨fun k i j hk => nat_up (h1 k i j hk) (by decide), fun k hk => nat_up (h2 k hk) (by decide)⟩
/-- the law's answer and the program's -/
theorem mass_eq {S R : List Int} (h : BkOk b ns Rw B) (nodn : ns.Nodup) (hR : R ≠ []) (nd : fs.Nodup) (mem : ∀ x k, (x, k) ∈ fs ↔ x ∈ ns ∧ k < (S ++ R).length ∧ AwN ns Rw (S ++ R) S.length x k) {i : Nat} {x : Str} (hi : fs[i]? = some (x, 0)) :
    prB wl ns Rw S R * Dt.mS (mM wl ns Rw (S ++ R) S.length fs) fs.length i fs.length = Dt.md (mM wl ns Rw (S ++ R) S.length fs) fs.length * (if wl = true then prB wl ns Rw S R - prT wl ns Rw S R x else prT wl ns Rw S R x) := by
  have F := fr_of h nodn nd mem
  have il := (List.getElem?_eq_some_iff.mp hi).1
  have := Rg.prog_free (wl := wl) (stem := S) (ring := R) F h.rk hR (u := i) (i := ns.idxOf x) (by rw [List.length_map]; exact il) (fA_n hi)
  have e : (fs.map (ixP ns)).length = fs.length := List.length_map _
  rw [e] at this
  exact this
theorem mass_sure {S R : List Int} (h : BkOk b ns Rw B) (hR : R ≠ []) {x : Str} (hx : x ∈ ns) (a : ¬ AwN ns Rw (S ++ R) S.length x 0) : prT wl ns Rw S R x = prB wl ns Rw S R := Rg.prog_sure h.rk hR (h.rn hx).2 a
theorem mass_zw {S R : List Int} (h : BkOk b ns Rw B) (nodn : ns.Nodup) (hR : R ≠ []) (nd : fs.Nodup) (mem : ∀ x k, (x, k) ∈ fs ↔ x ∈ ns ∧ k < (S ++ R).length ∧ AwN ns Rw (S ++ R) S.length x k) : Dt.Zw fs.length 0 (mM wl ns Rw (S ++ R) S.length fs) := by
  have hl : S.length < (S ++ R).length := by
    rw [List.length_append]
    have := List.length_pos_iff.mpr hR
    omega
  have := Rg.lM_zw (wl := wl) (fr_of h nodn nd mem) h.rk hl
  have e : (fs.map (ixP ns)).length = fs.length := List.length_map _
  rw [e] at this
  exact this
end
end My

set_option linter.all false
namespace My
open PySem PySem.Spec PyProof.Rows L2
abbrev sMs : Stmt := topS 35
/-- a dict by name and place of fractions -/
def RowP (H : Hp) (R : Addr) (fs : List Pr) (g : Pr → Int × Int) : Prop := ∃ kv : List (List Key × V), H R = some (.dT kv) ∧ kv.length ≤ 200 ∧ (∀ p, (valV kv (qk p)).isSome = decide (p ∈ fs)) ∧ ∀ p ∈ fs, ∃ t, valV kv (qk p) = some (.ref t) ∧ H t = some (pV (g p))
theorem RowP.same {H H' : Hp} {R : Addr} {fs : List Pr} {g : Pr → Int × Int} (h : RowP H R fs g) (s : Same H H') : RowP H' R fs g := by
  obtain ⟨kv, h1, h2, h3, h4⟩ := h
  exact ⟨kv, s _ _ h1, h2, h3, fun y hy => by obtain ⟨t, w1, w2⟩ := h4 y hy; exact ⟨t, w1, s _ _ w2⟩⟩
theorem RowP.cong {H : Hp} {R : Addr} {fs : List Pr} {g g' : Pr → Int × Int} (h : RowP H R fs g) (e : ∀ p ∈ fs, g p = g' p) : RowP H R fs g' := by
  obtain ⟨kv, h1, h2, h3, h4⟩ := h
  exact ⟨kv, h1, h2, h3, fun y hy => by rw [← e y hy]; exact h4 y hy⟩
theorem putK_old {kv : List (List Key × V)} {k : List Key} {v : V} (h : (valV kv k).isSome = true) : (putK kv k v).length = kv.length := by
  unfold putK
  rw [valV_any, if_pos h, List.length_map]
theorem RowP.put {H : Hp} {R T : Addr} {fs : List Pr} {g : Pr → Int × Int} {z : Pr} {q : Int × Int} {kv : List (List Key × V)} (hR : H R = some (.dT kv)) (hl : kv.length ≤ 200) (hs : ∀ p, (valV kv (qk p)).isSome = decide (p ∈ fs)) (hg : ∀ y ∈ fs, ∃ t, valV kv (qk y) = some (.ref t) ∧ H t = some (pV (g y))) (hz : z ∈ fs) (hT : H T = some (pV q)) : RowP (upd H R (.dT (putK kv (qk z) (.ref T)))) R fs fun y => if y = z then q else g y := by
  have ne : ∀ {t : Addr} {p : Int × Int}, H t = some (pV p) → t ≠ R := fun h z => by rw [z, hR] at h; cases h
  refine ⟨_, upd_same, by rw [putK_old (by rw [hs, decide_eq_true hz])]; exact hl, fun p => ?_, fun y hy => ?_⟩
  · by_cases c : p = z
    · subst c
      rw [valV_put, if_pos rfl, decide_eq_true hz]; rfl
    · rw [valV_put, if_neg fun w => c (qk_inj w)]; exact hs p
  · by_cases c : y = z
    · subst c
      refine ⟨T, by rw [valV_put, if_pos rfl], ?_⟩
      dsimp only
      rw [upd_ne (ne hT), if_pos rfl]; exact hT
    · obtain ⟨t, h1, h2⟩ := hg y hy
      refine ⟨t, by rw [valV_put, if_neg fun w => c (qk_inj w)]; exact h1, ?_⟩
      dsimp only
      rw [upd_ne (ne h2), if_neg c]; exact h2
theorem low_zero {W : Int} (h : 0 < W) : lowP 0 W = (0, 1) := low_is (by decide) h (by decide) (by rw [Int.zero_mul, Int.zero_mul])
theorem low_one {W : Int} (h : 0 < W) : lowP W W = (1, 1) := low_is (by decide) h (by decide) (by rw [Int.one_mul, Int.mul_one])
section
variable {wl : Bool} {b : Int} {ns : List Str} {Rw : List (List Ent)} {B : Nat} {digs : List Int} {r0 : Nat}
theorem nE_snoc (W : Nat) (es : List Ent) (e : Ent) (u v : Pr) : nE W digs r0 (es ++ [e]) u v = nE W digs r0 es u v + (if e.1 = digs.getD u.2 0 ∧ (e.2.1, Rg.pl digs.length r0 (u.2 + 1)) = v then pE W e else 0) := by
  unfold nE
  rw [List.map_append, List.sum_append]; simp
open Classical in
theorem nS_snoc (es : List Ent) (e : Ent) (u : Pr) : nS wl ns Rw digs r0 (es ++ [e]) u = nS wl ns Rw digs r0 es u + (if (wl = true ∧ digs.getD u.2 0 < e.1) ∨ (wl = false ∧ e.1 = digs.getD u.2 0 ∧ ¬ AwN ns Rw digs r0 e.2.1 (Rg.pl digs.length r0 (u.2 + 1))) then pE (wholeS Rw) e else 0) := by
  unfold nS
  rw [List.map_append, List.sum_append]; simp
theorem pE_le (h : BkOk b ns Rw B) {x : Str} (hx : x ∈ ns) {e : Ent} (he : e ∈ rowOf ns Rw x) : (pE (wholeS Rw) e).natAbs ≤ 2 ^ 43 ∧ 0 < e.2.2.1 ∧ e.2.2.1 ≤ 100 ∧ 0 < e.2.2.2 ∧ e.2.2.2 ≤ 100 ∧ e.2.2.2 * ((wholeS Rw : Int) / e.2.2.2) = (wholeS Rw : Nat) := by
  obtain ⟨_, _, _, q1, q2, q3, q4, _⟩ := (h.ent.row _ (rowOf_mem h hx)).2 e he
  have W := whole_le h.ent
  have B36 := h.B36
  refine ⟨?_, q1, q2, q3, q4, part_mul (whole_dvd (rowOf_mem h hx) he) q3⟩
  show (e.2.2.1 * ((wholeS Rw : Int) / e.2.2.2)).natAbs ≤ _
  rw [Int.natAbs_mul]
  have h1 : ((wholeS Rw : Int) / e.2.2.2).natAbs ≤ wholeS Rw := by
    have := Int.natAbs_ediv_le_natAbs (wholeS Rw : Int) e.2.2.2
    rwa [Int.natAbs_natCast] at this
  have := Nat.mul_le_mul (show e.2.2.1.natAbs ≤ 2 ^ 7 by omega) (show ((wholeS Rw : Int) / e.2.2.2).natAbs ≤ 2 ^ 36 by omega)
  rw [← Nat.pow_add] at this
  exact this
theorem nE_le (h : BkOk b ns Rw B) {u v : Pr} (hu : u.1 ∈ ns) (k : Nat) : (nE (wholeS Rw) digs r0 ((rowOf ns Rw u.1).take k) u v).natAbs ≤ 2 ^ 47 := by
  have l12 := (h.ent.row _ (rowOf_mem h hu)).1
  have := sum_bd (f := fun e : Ent => if e.1 = digs.getD u.2 0 ∧ (e.2.1, Rg.pl digs.length r0 (u.2 + 1)) = v then pE (wholeS Rw) e else 0) (M := 2 ^ 43) (l := (rowOf ns Rw u.1).take k) fun e he => by
    have := (pE_le h hu (List.mem_of_mem_take he)).1
    split
    · exact this
    · exact Nat.zero_le _
  unfold nE
  refine Nat.le_trans this ?_
  have l2 : ((rowOf ns Rw u.1).take k).length ≤ 16 := by rw [List.length_take]; omega
  exact Nat.mul_le_mul_right (2 ^ 43) l2
open Classical in
theorem nS_le (h : BkOk b ns Rw B) {u : Pr} (hu : u.1 ∈ ns) (k : Nat) : (nS wl ns Rw digs r0 ((rowOf ns Rw u.1).take k) u).natAbs ≤ 2 ^ 47 := by
  have l12 := (h.ent.row _ (rowOf_mem h hu)).1
  have := sum_bd (f := fun e : Ent => if (wl = true ∧ digs.getD u.2 0 < e.1) ∨ (wl = false ∧ e.1 = digs.getD u.2 0 ∧ ¬ AwN ns Rw digs r0 e.2.1 (Rg.pl digs.length r0 (u.2 + 1))) then pE (wholeS Rw) e else 0) (M := 2 ^ 43) (l := (rowOf ns Rw u.1).take k) fun e he => by
    have := (pE_le h hu (List.mem_of_mem_take he)).1
    split
    · exact this
    · exact Nat.zero_le _
  unfold nS
  refine Nat.le_trans this ?_
  have l2 : ((rowOf ns Rw u.1).take k).length ≤ 16 := by rw [List.length_take]; omega
  exact Nat.mul_le_mul_right (2 ^ 43) l2
def gE2 (W : Nat) (digs : List Int) (r0 : Nat) (es : List Ent) (u p : Pr) : Int × Int := lowP ((if p = u then (W : Int) else 0) - nE W digs r0 es u p) (W : Nat)
/-- a fraction added -/
theorem add_part {W : Nat} {e : Ent} (W0 : 0 < W) (d0 : 0 < e.2.2.2) (pm : e.2.2.2 * ((W : Int) / e.2.2.2) = (W : Nat)) (Pv : Int) : lowP ((lowP Pv (W : Nat)).1 * e.2.2.2 + e.2.2.1 * (lowP Pv (W : Nat)).2) ((lowP Pv (W : Nat)).2 * e.2.2.2) = lowP (Pv + pE W e) (W : Nat) :=
  add_frac (by omega) d0 (by
    show e.2.2.1 * (W : Nat) = e.2.2.1 * ((W : Int) / e.2.2.2) * e.2.2.2
    rw [← pm, pm, Int.mul_assoc, Int.mul_comm ((W : Int) / e.2.2.2), pm])
theorem sub_part {W : Nat} {e : Ent} (W0 : 0 < W) (d0 : 0 < e.2.2.2) (pm : e.2.2.2 * ((W : Int) / e.2.2.2) = (W : Nat)) (Pv : Int) : lowP ((lowP Pv (W : Nat)).1 * e.2.2.2 + (0 - e.2.2.1) * (lowP Pv (W : Nat)).2) ((lowP Pv (W : Nat)).2 * e.2.2.2) = lowP (Pv + (0 - pE W e)) (W : Nat) :=
  add_frac (by omega) d0 (by
    show (0 - e.2.2.1) * (W : Nat) = (0 - e.2.2.1 * ((W : Int) / e.2.2.2)) * e.2.2.2
    rw [Int.zero_sub, Int.zero_sub, Int.neg_mul, Int.neg_mul, Int.mul_assoc, Int.mul_comm ((W : Int) / e.2.2.2), pm])
end
end My

set_option linter.all false
namespace My
open PySem PySem.Spec PyProof.Rows L2
/-- what the law's fraction is -/
def MassIs (wl : Bool) (ns : List Str) (Rw : List (List Ent)) (S R : List Int) (x : Str) (u d : Int) : Prop :=
  (¬ AwN ns Rw (S ++ R) S.length x 0 ∧ u = (if wl = true then 0 else 1) ∧ d = 1) ∨ ∃ X Y : Int, 0 < Y ∧ X.natAbs < 2 ^ 1100 ∧ Y.natAbs < 2 ^ 1100 ∧ (u, d) = lowP X Y ∧ prB wl ns Rw S R * X = Y * (if wl = true then prB wl ns Rw S R - prT wl ns Rw S R x else prT wl ns Rw S R x)
abbrev prD (p : Pr) : PyData := .tuple [.str p.1, .int ((p.2 : Nat) : Int)]
theorem eqv_prD (p q : Pr) : PyData.eqv (prD p) (prD q) = decide (p = q) := by
  obtain ⟨x, i⟩ := p
  obtain ⟨y, j⟩ := q
  simp only [PyData.eqv, PyData.eqvAll]
  by_cases c : x = y
  · subst c
    by_cases d : i = j
    · subst d; simp
    · have d2 : ¬ ((i : Int) = (j : Int)) := fun z => d (by omega)
      simp [d, d2]
  · simp [c]
theorem un65 {u k c : Nat} (h : u + 16 * k + 200 < c) : u + 65 < c := by omega
theorem valV_memG {κ : Type} [DecidableEq κ] : ∀ {kvs : List (κ × V)} {k : κ} {v : V}, (kvs.map (·.1)).Nodup → (k, v) ∈ kvs → valV kvs k = some v
  | p :: r, k, v, nd, h => by
    obtain ⟨h1, h2⟩ := List.nodup_cons.mp nd
    rcases List.mem_cons.mp h with e | e
    · subst e; exact valV_pos rfl
    · have : ¬ p.1 = k := fun z => h1 (show p.1 ∈ r.map (·.1) by rw [z]; exact List.mem_map.mpr ⟨_, e, rfl⟩)
      rw [valV_neg this]; exact valV_memG h2 e
section
variable {P : Program} {w : World} {K : PySem.W.Frag} {mg : Str → Option Value} {base : Heap}
theorem dp_prs {K : PySem.W.Frag} {H : Hp} : ∀ {as : List Addr} {fs : List Pr}, as.length = fs.length → (∀ (j : Nat) (t : Addr) (p : Pr), as[j]? = some t → fs[j]? = some p → H t = some (.tup (qv p))) → DpAll K H (as.map V.ref) (fs.map prD)
  | [], [], _, _ => .nil
  | a :: as, p :: fs, l, h => .cons (.tup (SqT.of (h 0 a p rfl rfl)) (.cons (.str p.1) (.cons (.int _) .nil))) (dp_prs (by simpa using l) fun j t q g1 g2 => h (j + 1) t q (by simpa using g1) (by simpa using g2))
theorem shaped_pr (p : Pr) (h : PyData.strOk p.1 = true) : SeqAt.shaped (prD p) = true := by
  unfold SeqAt.shaped prD
  simp only [PyData.canLay0, PyData.canLayAll0, PyData.depth, PyData.depthAll, h]
  rfl
theorem shaped_prs (fs : List Pr) (h : ∀ p ∈ fs, PyData.strOk p.1 = true) : SeqAt.shaped (.list (fs.map prD)) = true := by
  have h1 : PyData.canLayAll0 (fs.map prD) = true := by
    induction fs with
    | nil => simp [PyData.canLayAll0]
    | cons x r ih => simp only [List.map_cons, PyData.canLayAll0, PyData.canLay0, ih fun p hp => h p (List.mem_cons_of_mem _ hp), h x List.mem_cons_self, Bool.and_true]
  have h2 : PyData.depthAll (fs.map prD) ≤ 1 := by
    clear h1 h
    induction fs with
    | nil => simp [PyData.depthAll]
    | cons x r ih =>
      simp only [List.map_cons, PyData.depthAll, PyData.depth]
      omega
  unfold SeqAt.shaped
  simp only [PyData.canLay0, PyData.depth, h1, Bool.true_and]
  exact decide_eq_true (by omega)
structure TgM (mg : Str → Option Value) : Prop where
  dict : mg "dict" = none
theorem scMs : FnScope ["rows", "name", "stem", "ring", "way", "digits", "places", "free", "surely", "weights", "sums", "one", "at", "spot", "row", "total", "digit", "other", "share"] ["rows", "name", "stem", "ring", "way"] (defScope sMs) := ⟨rfl, rfl, rfl, by decide +kernel, rfl, by decide +kernel, by decide +kernel⟩
def spMs : Sp := fun vs H Q _ => ∃ (rr st rg : Addr) (b : Int) (ns : List Str) (Rw : List (List Ent)) (B : Nat) (S R : List Int) (x : Str) (wl : Bool), vs = [.ref rr, .str x, .ref st, .ref rg, .int (if wl = true then 0 else 1)] ∧ BkD H rr ns Rw ∧ BkOk b ns Rw B ∧ x ∈ ns ∧ H st = some (.tup (S.map V.int)) ∧ H rg = some (.tup (R.map V.int)) ∧ R ≠ [] ∧ (S ++ R).length ≤ 20 ∧ ns.length * (S ++ R).length ≤ 24 ∧ (∀ y ∈ ns, PyData.strOk y = true) ∧
  ∀ (T : Addr) (u d : Int) (H' : Hp), Same H H' → H' T = some (.tup [.int u, .int d]) → MassIs wl ns Rw S R x u d → Q (.ref T) H'
set_option maxHeartbeats 2000000 in
theorem ok_ms {f fU fA fS : Addr} {fd fdU fdA fdS : FuncData} (F0 : Fun K "_law_mass" "_law_mass" sMs f fd) (T : TgM mg)
    (FU : Fun K "_law_unknowns" "_law_unknowns" sUn fU fdU) (GU : FnOk P w K mg base CX0 2 fU fdU ["rows", "stem", "ring"] spUn) (bU : Binds K fdU ["rows", "stem", "ring"] []) (gU : mg "_law_unknowns" = some (.ref fU))
    (FA : Fun K "_law_added" "_law_added" sAdd fA fdA) (GA : FnOk P w K mg base CX0 2 fA fdA ["one", "other"] spAdd) (bA : Binds K fdA ["one", "other"] []) (gA : mg "_law_added" = some (.ref fA))
    (FS : Fun K "_law_solved" "_law_solved" sLso fS fdS) (GS : FnOk P w K mg base CX0 3 fS fdS ["rows", "sums"] spLso) (bS : Binds K fdS ["rows", "sums"] []) (gS : mg "_law_solved" = some (.ref fS)) : FnOk P w K mg base CX0 4 f fd ["rows", "name", "stem", "ring", "way"] spMs := by
  refine F0.ok scMs (fun vs H Q E h => ?_) (fun cdv A outer s0 H vs Q E hr h => ?_)
  · obtain ⟨rr, st, rg, b, ns, Rw, B, S, R, x, wl, rfl, _⟩ := h
    rfl
  · obtain ⟨rr, st, rg, b, ns, Rw, B, S, R, x, wl, rfl, BD, BO, hx, hst, hrg, hR, m20, n24, sok, k⟩ := h
    have hr3 : Room 3 _ := hr.mono (by decide)
    have hr2 : Room 2 _ := hr.mono (by decide)
    have hu1 := Nat.lt_trans (Nat.add_lt_add_left (show 1 < 64 by decide) _) hr.units
    have hu65 := un65 (k := 3) hr.un
    refine ⟨_, (pss_cons (ps_asg (pe_call GU hr2 (by rfl) gU FU.kp bU .nil pass0 (pa_cons (pv 0) (pa_cons (pv 2) (pa_cons (pv 3) pa_nil)))) (pg_tup (by rfl) (pgs_cons (pg_name (i := 5) scMs.nd rfl (Or.inl rfl)) (pgs_cons (pg_name (i := 6) scMs.nd rfl (Or.inl rfl)) (pgs_cons (pg_name (i := 7) scMs.nd rfl (Or.inl rfl)) (pgs_cons (pg_name (i := 8) scMs.nd rfl (Or.inl rfl)) pgs_nil))))))
      (pss_cons (ps_if (pt_cmp (pc_din hu1 (pe_tup (pa_cons (pv 1) (pa_cons pe_int pa_nil))) (pv 8))) (pss_one (ps_ret (pe_tup (pa_cons (pv 4) (pa_cons pe_int pa_nil))))) pss_nil)
      (pss_cons (ps_set (i := 9) scMs.nd rfl (Or.inl rfl) (pe_lst pa_nil))
      (pss_cons (ps_set (i := 10) scMs.nd rfl (Or.inl rfl) (pe_lst pa_nil))
      (pss_cons (ps_for PassesOwn.never rfl (pi_list (pv 7)) (pg_tup (by rfl) (pgs_cons (pg_name (i := 11) scMs.nd rfl (Or.inl rfl)) (pgs_cons (pg_name (i := 12) scMs.nd rfl (Or.inl rfl)) pgs_nil))) (pss_cons (ps_set (i := 14) scMs.nd rfl (Or.inr rfl) (pe_callTy (call_dictG rfl hr.units) (by rfl) T.dict boot_dict (pa_cons (pe_lc (own := [("spot", 13)]) (g := gName 13) (tt := tYes) rfl scMs.nd (pi_list (pv 7)) (blkOk_by (N := ["rows", "name", "stem", "ring", "way", "digits", "places", "free", "surely", "weights", "sums", "one", "at", "spot", "row", "total", "digit", "other", "share"]) (sc := defScope sMs) (by decide +kernel)) (fun _ _ _ _ _ => (pg_name (i := 13) scMs.nd rfl (Or.inl rfl))) (fun _ _ _ _ _ => pts_nil) (fun _ _ _ _ _ => (pe_tup (pa_cons (pv 13) (pa_cons (pe_tup (pa_cons pe_int (pa_cons pe_int pa_nil))) pa_nil))))) pa_nil)))
      (pss_cons (ps_dput hu1 (pv 14) (pe_tup (pa_cons (pv 11) (pa_cons (pv 12) pa_nil))) (pe_tup (pa_cons pe_int (pa_cons pe_int pa_nil))) (by rfl))
      (pss_cons (ps_set (i := 15) scMs.nd rfl (Or.inl rfl) (pe_tup (pa_cons pe_int (pa_cons pe_int pa_nil))))
      (pss_cons (ps_for PassesOwn.never rfl (pi_tup (pe_dget hu1 (pv 0) (pv 11) (fun _ _ => rfl))) (pg_tup (by rfl) (pgs_cons (pg_name (i := 16) scMs.nd rfl (Or.inl rfl)) (pgs_cons (pg_name (i := 17) scMs.nd rfl (Or.inl rfl)) (pgs_cons (pg_name (i := 18) scMs.nd rfl (Or.inl rfl)) pgs_nil)))) (pss_cons (ps_set (i := 13) scMs.nd rfl (Or.inl rfl) (pe_tup (pa_cons (pv 17) (pa_cons (pe_ix ix_list (pv 6) (pv 12) (fun _ _ => rfl)) pa_nil))))
      (C8.pss_cut (ps_if (PW.pt (pw_and (pt_cmpR op_eq (pv 16) (pe_ix ix_tup (pv 5) (pv 12) (fun _ _ => rfl)) (nomark _)) (pw_and1 (pt_cmp (pc_din hu1 (pv 13) (pv 14)))))) (pss_one (ps_dput hu1 (pv 14) (pv 13) (pe_call GA hr2 (by rfl) gA FA.kp bA .nil pass0 (pa_cons (pe_dget hu1 (pv 14) (pv 13) (fun _ _ => rfl)) (pa_cons (pe_tup (pa_cons (pe_op op_sub pe_int (pe_ix ix_tup (pv 18) pe_int (fun _ _ => rfl))) (pa_cons (pe_ix ix_tup (pv 18) pe_int (fun _ _ => rfl)) pa_nil))) pa_nil))) (by rfl))) pss_nil)
      (pss_one (ps_if (PW.pt (pw_or (PW.pt (pw_and (pt_cmpR op_gt (pv 16) (pe_ix ix_tup (pv 5) (pv 12) (fun _ _ => rfl)) (nomark _)) (pw_and1 (pt_cmpR op_eq (pv 4) pe_int (nomark _))))) (pw_or1 (PW.pt (pw_and (pt_cmpR op_eq (pv 16) (pe_ix ix_tup (pv 5) (pv 12) (fun _ _ => rfl)) (nomark _)) (pw_and (pt_cmp (pc_din hu1 (pv 13) (pv 8))) (pw_and1 (pt_cmpR op_eq (pv 4) pe_int (nomark _))))))))) (pss_one (ps_set (i := 15) scMs.nd rfl (Or.inl rfl) (pe_call GA hr2 (by rfl) gA FA.kp bA .nil pass0 (pa_cons (pv 15) (pa_cons (pv 18) pa_nil))))) pss_nil)))))
      (pss_cons (ps_expr (pe_bm PySem.F.plainAttrs_list PySem.F.slot_list_append PySem.F.type_list_append mt_append (pv 9) (pa_cons (pe_lc (own := [("spot", 13)]) (g := gName 13) (tt := tYes) rfl scMs.nd (pi_list (pv 7)) (blkOk_by (N := ["rows", "name", "stem", "ring", "way", "digits", "places", "free", "surely", "weights", "sums", "one", "at", "spot", "row", "total", "digit", "other", "share"]) (sc := defScope sMs) (by decide +kernel)) (fun _ _ _ _ _ => (pg_name (i := 13) scMs.nd rfl (Or.inl rfl))) (fun _ _ _ _ _ => pts_nil) (fun _ _ _ _ _ => (pe_dget hu1 (pv 14) (pv 13) (fun _ _ => rfl)))) pa_nil)))
      (pss_one (ps_expr (pe_bm PySem.F.plainAttrs_list PySem.F.slot_list_append PySem.F.type_list_append mt_append (pv 10) (pa_cons (pv 15) pa_nil))))))))))
      (pss_one (ps_ret (pe_ix ix_list (pe_call GS hr3 (by rfl) gS FS.kp bS .nil pass0 (pa_cons (pv 9) (pa_cons (pv 10) pa_nil))) (pe_bm PySem.F.plainAttrs_list PySem.F.slot_list_index PySem.F.type_list_index (mt_indexD hu65) (pv 7) (pa_cons (pe_tup (pa_cons (pv 1) (pa_cons pe_int pa_nil))) pa_nil)) (fun _ _ => rfl))))))))), ?_⟩
    have r0 : S.length < (S ++ R).length := by
      rw [List.length_append]
      have := List.length_pos_iff.mpr hR
      omega
    have W := whole_le BO.ent
    have B36 := BO.B36
    have n0 : 0 < ns.length := List.length_pos_of_mem hx
    refine ⟨_, rfl, _, rfl, _, rfl, rr, st, rg, b, ns, Rw, B, S, R, rfl, BD, BO, hst, hrg, hR, m20, fun T1 dg pa fr sf ks fs H1 s1 g1 hdg hpa hsf gm hfr nd mem => ?_⟩
    refine ⟨T1, _, rfl, SqT.of g1, rfl, _, _, rfl, _, _, rfl, _, _, rfl, _, _, rfl, rfl, ?_⟩
    refine ⟨_, rfl, by show 2 ≤ sizeLine; rw [sizeLine_eq]; decide, fun t0 nt0 => ?_⟩
    have st0 := same_upd (o := .tup [.str x, .int 0]) nt0
    refine ⟨_, rfl, sf, _, rfl, DGet.t (k := qk (x, 0)) (st0 _ _ hsf) upd_same, ?_⟩
    rw [dtv_val]
    refine ⟨_, rfl, ?_⟩
    by_cases c0 : (x, 0) ∈ ks
    · rw [decide_eq_true c0]
      refine ifT rfl ⟨_, rfl, by show 2 ≤ sizeLine; rw [sizeLine_eq]; decide, fun q nq => ?_⟩
      exact k q _ _ _ ((s1.trans st0).trans (same_upd nq)) upd_same (.inl ⟨((gm x 0).mp c0).2.2, rfl, rfl⟩)
    · rw [decide_eq_false c0]
      refine ifF rfl ?_
      have xf : (x, 0) ∈ fs := (mem x 0).mpr ⟨hx, by omega, Classical.byContradiction fun z => c0 ((gm x 0).mpr ⟨hx, by omega, z⟩)⟩
      have inn : ∀ p ∈ fs, p.1 ∈ ns := fun p hp => ((mem p.1 p.2).mp hp).1
      have l24 : fs.length ≤ 24 := by
        have := List.Nodup.length_le_of_subset nd (l₂ := allP (S ++ R).length ns) (fun p hp => by
          obtain ⟨q1, q2, _⟩ := (mem p.1 p.2).mp hp
          exact mem_allP.mpr ⟨q1, q2⟩)
        rw [allP_len] at this
        omega
      have s2 := s1.trans st0
      have hdg2 := st0 _ _ hdg
      have hpa2 := st0 _ _ hpa
      have hsf2 := st0 _ _ hsf
      have hfr2 := hfr.same st0
      generalize upd H1 t0 (.tup [.str x, .int 0]) = H2 at s2 hdg2 hpa2 hsf2 hfr2 ⊢
      refine ⟨by show 0 ≤ sizeLine; exact Nat.zero_le _, fun wa nwa => ?_⟩
      have swa := same_upd (o := .lst []) nwa
      refine ⟨by show 0 ≤ sizeLine; exact Nat.zero_le _, fun sa nsa => ?_⟩
      have ssa := same_upd (o := .lst []) nsa
      have wsa : wa ≠ sa := fun z => by rw [← z, upd_same] at nsa; cases nsa
      have nsa2 : H2 sa = none := swa.free nsa
      obtain ⟨as, a1, a2, a3⟩ := id hfr2
      have h3w : upd (upd H2 wa (.lst [])) sa (.lst []) wa = some (.lst []) := by rw [upd_ne wsa, upd_same]
      refine ⟨_, rfl, fr, rfl, ⟨_, SqL.of (ssa _ _ (swa _ _ a1))⟩, ?_⟩
      obtain ⟨M, hM⟩ : ∃ M, mM wl ns Rw (S ++ R) S.length fs = M := ⟨_, rfl⟩
      refine for_it (walk_list (K := K) (a := fr) (xs := as.map V.ref)) (fun i σ Ho => Same H2 Ho ∧ (∃ y11 y12 y13 y14 y15 y16 y17 y18 : Option V, σ = [some (.ref rr), some (.str x), some (.ref st), some (.ref rg), some (.int (if wl = true then 0 else 1)), some (.ref dg), some (.ref pa), some (.ref fr), some (.ref sf), some (.ref wa), some (.ref sa), y11, y12, y13, y14, y15, y16, y17, y18]) ∧ (∃ ds : List Addr, Ho wa = some (.lst (ds.map V.ref)) ∧ ds.length = i ∧ ∀ (j : Nat) (d : Addr), ds[j]? = some d → d ≠ wa ∧ d ≠ sa ∧ FrL Ho d fs.length (fun t => eP M (wholeS Rw : Nat) 0 j t)) ∧ ∃ us : List Addr, Ho sa = some (.lst (us.map V.ref)) ∧ us.length = i ∧ ∀ (j : Nat) (u : Addr), us[j]? = some u → Ho u = some (pV (eP M (wholeS Rw : Nat) 0 j fs.length))) ?_ ?_ ?_ ?_
      · exact ⟨swa.trans ssa, ⟨_, _, _, _, _, _, _, _, rfl⟩, ⟨[], h3w, rfl, fun j d z => by simp at z⟩, [], upd_same, rfl, fun j u z => by simp at z⟩
      · exact fun i σ Ho _ z => SqL.of (z.1 _ _ a1)
      · rintro i y σ Ho0 Ho hi ⟨so, ⟨y11, y12, y13, y14, y15, y16, y17, y18, rfl⟩, ⟨ds, hwa, lds, hds⟩, us, hsa, lus, hus⟩ ⟨rfl, hy⟩
        obtain ⟨ti, hti, rfl⟩ := at_ref hy
        rw [List.length_map, a2] at hi
        obtain ⟨u, hu⟩ : ∃ u, fs[i]? = some u := ⟨fs[i], List.getElem?_eq_getElem hi⟩
        have ufs := List.mem_of_getElem? hu
        obtain ⟨un, um, _⟩ := (mem u.1 u.2).mp ufs
        have htu := so _ _ (a3 i ti u hti hu)
        refine ⟨ti, _, rfl, SqT.of htu, rfl, _, _, rfl, _, _, rfl, rfl, ?_⟩
        -- the row
        refine ⟨_, rfl, fr, rfl, ⟨_, SqL.of (so _ _ a1)⟩, fun D nD => ?_⟩
        refine lc_pr (walk_list (K := K) (a := fr) (xs := as.map V.ref)) (fun j v Hx => ∃ t t2 : Addr, v = .ref t ∧ (∀ a, as[j]? = some a → Hx t = some (.tup [.ref a, .ref t2])) ∧ Hx t2 = some (pV (0, 1))) (fun j v Ha Hb kp ⟨t, t2, e, q1, q2⟩ => ⟨t, t2, e, fun a ha => kp _ _ (q1 a ha), kp _ _ q2⟩) nD (by rw [List.length_map, a2, sizeLine_eq]; omega) (fun Hc sc => SqL.of (sc _ _ (so _ _ a1))) (fun j v Ha Hb hj sb yy Q2 R2 q2 => ?_) fun H5 vs5 s5 hD lvs hvs => ?_
        · obtain ⟨rfl, hv⟩ := yy
          obtain ⟨aj, haj, rfl⟩ := at_ref hv
          refine ⟨rfl, tyes ?_⟩
          refine ⟨_, rfl, by show 2 ≤ sizeLine; rw [sizeLine_eq]; decide, fun p1 n1 => ⟨by show 2 ≤ sizeLine; rw [sizeLine_eq]; decide, fun p2 n2 => ?_⟩⟩
          have z1 := same_upd (o := .tup [.int 0, .int 1]) n1
          have z2 := same_upd (o := .tup [.ref aj, .ref p1]) n2
          exact q2 _ _ (z1.trans z2) ⟨p2, p1, rfl, fun a ha => by rw [haj] at ha; obtain rfl := Option.some.inj ha; exact upd_same, z2 _ _ upd_same⟩
        · rw [List.length_map, a2] at lvs
          obtain ⟨zs, lz, hz⟩ := choose_n (α := Zk) (Pr := fun j z => vs5[j]? = some (.ref z.1) ∧ H5 z.1 = some (.tup [.ref z.2.1, z.2.2.2]) ∧ (∀ p, fs[j]? = some p → H5 z.2.1 = some (.tup (qv p)) ∧ z.2.2.1 = qk p) ∧ ∃ t2, z.2.2.2 = .ref t2 ∧ H5 t2 = some (pV (0, 1))) fs.length fun j hj => by
            obtain ⟨t, t2, e, q1, q2⟩ := hvs j _ (List.getElem?_eq_getElem (show j < vs5.length by omega))
            obtain ⟨aj, haj⟩ : ∃ a, as[j]? = some a := ⟨as[j]'(by omega), List.getElem?_eq_getElem _⟩
            refine ⟨(t, aj, qk fs[j], .ref t2), by rw [List.getElem?_eq_getElem (show j < vs5.length by omega), e], q1 aj haj, fun p hp => ?_, t2, rfl, q2⟩
            rw [List.getElem?_eq_getElem hj] at hp
            obtain rfl := Option.some.inj hp
            exact ⟨s5 _ _ (so _ _ (a3 j aj _ haj (List.getElem?_eq_getElem hj))), rfl⟩
          have eus : vs5 = zs.map fun z => V.ref z.1 := list_by _ (by omega) fun j z h => (hz j z h).1
          rw [eus] at hD
          have ek : zs.map (fun z => z.2.2.1) = fs.map qk := by
            refine List.ext_getElem? fun j => ?_
            rw [List.getElem?_map, List.getElem?_map]
            by_cases c : j < fs.length
            · rw [List.getElem?_eq_getElem c, List.getElem?_eq_getElem (show j < zs.length by omega)]
              have := ((hz j _ (List.getElem?_eq_getElem (show j < zs.length by omega))).2.2.1 _ (List.getElem?_eq_getElem c)).2
              exact congrArg some this
            · rw [List.getElem?_eq_none (by omega), List.getElem?_eq_none (by omega)]; rfl
          refine ⟨D, zs, rfl, SqL.of hD, by omega, fun z hzm => ?_, by rw [ek]; exact qk_nod nd, fun Rd0 nRd => ?_⟩
          · obtain ⟨j, hj, rfl⟩ := List.mem_iff_getElem.mp hzm
            obtain ⟨_, q1, q2, t2, q3, q4⟩ := hz j _ (List.getElem?_eq_getElem hj)
            obtain ⟨q5, q6⟩ := q2 _ (List.getElem?_eq_getElem (show j < fs.length by omega))
            refine ⟨q1, ?_, by rw [q3]; rfl⟩
            rw [q6, qk_v]; exact q5
          · have nRo : Ho Rd0 = none := s5.free nRd
            have W0 : (0 : Int) < (wholeS Rw : Nat) := by omega
            have sR := same_upd (o := .dT (zs.map fun z => (z.2.2.1, z.2.2.2))) nRd
            have rp0 : RowP (upd H5 Rd0 (.dT (zs.map fun z => (z.2.2.1, z.2.2.2)))) Rd0 fs fun _ => (0, 1) := by
              refine ⟨_, upd_same, by rw [List.length_map, lz]; omega, fun p => ?_, fun p hp => ?_⟩
              · rw [← valV_any]
                have : ((zs.map fun z => (z.2.2.1, z.2.2.2)).any fun kv => decide (kv.1 = qk p)) = ((fs.map qk).any fun k => decide (k = qk p)) := by
                  rw [← ek, List.any_map, List.any_map]; rfl
                rw [this]
                by_cases c : p ∈ fs
                · rw [decide_eq_true c, List.any_eq_true]
                  exact ⟨qk p, List.mem_map.mpr ⟨p, c, rfl⟩, decide_eq_true rfl⟩
                · rw [decide_eq_false c, List.any_eq_false]
                  intro y hy z
                  obtain ⟨q, hq, rfl⟩ := List.mem_map.mp hy
                  exact c (by rw [← qk_inj (of_decide_eq_true z)]; exact hq)
              · obtain ⟨j, hj, rfl⟩ := List.mem_iff_getElem.mp hp
                have hzj := List.getElem?_eq_getElem (show j < zs.length by omega)
                obtain ⟨_, q1, q2, t2, q3, q4⟩ := hz j _ hzj
                obtain ⟨q5, q6⟩ := q2 _ (List.getElem?_eq_getElem hj)
                refine ⟨t2, ?_, sR _ _ q4⟩
                refine valV_memG (by rw [List.map_map]; exact (by show (zs.map fun z => z.2.2.1).Nodup; rw [ek]; exact qk_nod nd)) ?_
                rw [← q6, ← q3]
                exact List.mem_map.mpr ⟨_, List.getElem_mem (show j < zs.length by omega), rfl⟩
            have so6 := s5.trans sR
            generalize upd H5 Rd0 (.dT (zs.map fun z => (z.2.2.1, z.2.2.2))) = H6 at so6 rp0 ⊢
            refine ⟨by show 2 ≤ sizeLine; rw [sizeLine_eq]; decide, fun v1 nv1 => ?_⟩
            have sv := same_upd (o := .tup [.int 1, .int 1]) nv1
            refine ⟨_, rfl, _, rfl, _, rfl, by show 2 ≤ sizeLine; rw [sizeLine_eq]; decide, fun kt nkt => ?_⟩
            have skt := same_upd (o := .tup [.str u.1, .int (u.2 : Nat)]) nkt
            obtain ⟨kv, r1, r2, r3, r4⟩ := (rp0.same sv).same skt
            have hv1 := skt _ _ (upd_same (H := H6) (a := v1) (o := .tup [.int 1, .int 1]))
            refine ⟨Rd0, _, rfl, DPut.t (k := qk u) r1 upd_same (by rw [sizeLine_eq]; omega), ?_⟩
            have rp1 := RowP.put (z := u) (q := (1, 1)) (T := v1) r1 r2 r3 r4 ufs hv1
            have so8 := (so6.trans sv).trans skt
            have so9 : Same Ho (upd (upd (upd H6 v1 (.tup [.int 1, .int 1])) kt (.tup [.str u.1, .int (u.2 : Nat)])) Rd0 (.dT (putK kv (qk u) (.ref v1)))) := fun c o e => by
              rw [upd_ne (fun z => by rw [z, nRo] at e; cases e)]; exact so8 _ _ e
            generalize upd (upd (upd H6 v1 (.tup [.int 1, .int 1])) kt (.tup [.str u.1, .int (u.2 : Nat)])) Rd0 (.dT (putK kv (qk u) (.ref v1))) = H9 at so9 rp1 ⊢
            refine ⟨by show 2 ≤ sizeLine; rw [sizeLine_eq]; decide, fun tt ntt => ?_⟩
            have stt := same_upd (o := .tup [.int 0, .int 1]) ntt
            have htt : upd H9 tt (.tup [.int 0, .int 1]) tt = some (pV (lowP (nS wl ns Rw (S ++ R) S.length ((rowOf ns Rw u.1).take 0) u) (wholeS Rw : Nat))) := by
              rw [upd_same, List.take_zero, show nS wl ns Rw (S ++ R) S.length [] u = 0 from rfl, low_zero W0]; rfl
            have rp2 : RowP (upd H9 tt (.tup [.int 0, .int 1])) Rd0 fs (gE2 (wholeS Rw) (S ++ R) S.length ((rowOf ns Rw u.1).take 0) u) := (rp1.same stt).cong fun p hp => by
              unfold gE2
              rw [List.take_zero, show nE (wholeS Rw) (S ++ R) S.length [] u p = 0 from rfl, Int.sub_zero]
              by_cases c : p = u
              · rw [if_pos c, if_pos c, low_one W0]
              · rw [if_neg c, if_neg c, low_zero W0]
            have so10 := so9.trans stt
            generalize upd H9 tt (.tup [.int 0, .int 1]) = H10 at so10 htt rp2 ⊢
            obtain ⟨q, dg1, rT, _⟩ := (BD.same ((s2.trans so).trans so10)).get un
            obtain ⟨ts, ss, w1, w2, w3, w4⟩ := id rT
            obtain ⟨es, hes⟩ : ∃ es, rowOf ns Rw u.1 = es := ⟨_, rfl⟩
            refine ⟨_, rfl, _, rfl, rr, _, rfl, dg1, q, rfl, ⟨_, SqT.of w1⟩, ?_⟩
            rw [hes] at w2 w3 w4 htt rp2
            have ein : ∀ e ∈ es, e ∈ rowOf ns Rw u.1 := fun e he => by rw [hes]; exact he
            refine for_it (walk_tup (K := K) (a := q) (xs := ts.map V.ref)) (fun j σ Hj => (∀ c o, c ≠ Rd0 → H10 c = some o → Hj c = some o) ∧ ∃ (tt : Addr) (y13 y16 y17 y18 : Option V), σ = [some (.ref rr), some (.str x), some (.ref st), some (.ref rg), some (.int (if wl = true then 0 else 1)), some (.ref dg), some (.ref pa), some (.ref fr), some (.ref sf), some (.ref wa), some (.ref sa), some (.str u.1), some (.int (u.2 : Nat)), y13, some (.ref Rd0), some (.ref tt), y16, y17, y18] ∧ RowP Hj Rd0 fs (gE2 (wholeS Rw) (S ++ R) S.length (es.take j) u) ∧ Hj tt = some (pV (lowP (nS wl ns Rw (S ++ R) S.length (es.take j) u) (wholeS Rw : Nat)))) ?_ ?_ ?_ ?_
            · exact ⟨fun c o _ e => e, tt, _, _, _, _, rfl, rp2, htt⟩
            · intro j σ Hj _ z
              refine SqT.of (z.1 _ _ (fun z2 => ?_) w1)
              obtain ⟨kv2, e2, _⟩ := rp2
              rw [z2, e2] at w1; cases w1
            · obtain ⟨kv10, hkv10, _⟩ := id rp2
              have hdg10 := so10 _ _ (so _ _ hdg2)
              have hpa10 := so10 _ _ (so _ _ hpa2)
              have hsf10 := so10 _ _ (so _ _ hsf2)
              rintro j y σ Hj0 Hj hj ⟨kj, tt, y13, y16, y17, y18, rfl, hRj, htj⟩ ⟨rfl, hy⟩
              obtain ⟨tj, htj2, rfl⟩ := at_ref hy
              rw [List.length_map, w2] at hj
              have hej := List.getElem?_eq_getElem hj
              have eme := ein _ (List.getElem_mem hj)
              have tk : es.take (j + 1) = es.take j ++ [es[j]] := by rw [List.take_add_one, hej]; rfl
              obtain ⟨sj, hsj⟩ : ∃ s, ss[j]? = some s := ⟨ss[j]'(by omega), List.getElem?_eq_getElem _⟩
              obtain ⟨k1, k2⟩ := w4 j tj sj _ htj2 hsj hej
              generalize es[j] = e at hej eme tk k1 k2
              obtain ⟨l43, u1, u2, d1, d2, pm⟩ := pE_le BO un eme
              have enx := ent_in BO un eme
              have pll : Rg.pl (S ++ R).length S.length (u.2 + 1) < (S ++ R).length := by unfold Rg.pl; split <;> omega
              have upT : ∀ {c : Addr} {xs : List V}, H10 c = some (.tup xs) → Hj c = some (.tup xs) := fun {c xs} e => kj _ _ (fun z => by rw [z, hkv10] at e; cases e) e
              have upL : ∀ {c : Addr} {xs : List V}, H10 c = some (.lst xs) → Hj c = some (.lst xs) := fun {c xs} e => kj _ _ (fun z => by rw [z, hkv10] at e; cases e) e
              have sfR : sf ≠ Rd0 := fun z => by
                have := so _ _ hsf2
                rw [z, nRo] at this; cases this
              refine ⟨tj, _, rfl, SqT.of (upT k1), rfl, _, _, rfl, _, _, rfl, _, _, rfl, rfl, ?_⟩
              have atd : atI ((S ++ R).map V.int) ((u.2 : Nat) : Int) = some (.int ((S ++ R).getD u.2 0)) := atI_nat (by rw [List.getElem?_map, List.getElem?_eq_getElem um, getD_at (List.getElem?_eq_getElem um)]; rfl)
              have atp : atI ((plcs (S ++ R).length S.length).map V.int) ((u.2 : Nat) : Int) = some (.int (Rg.pl (S ++ R).length S.length (u.2 + 1) : Nat)) := atI_nat (by unfold plcs; rw [List.getElem?_map, List.getElem?_map, List.getElem?_range um]; rfl)
              refine ⟨_, rfl, _, rfl, _, rfl, pa, _, _, _, rfl, rfl, SqL.of (upL hpa10), atp, by show 2 ≤ sizeLine; rw [sizeLine_eq]; decide, fun sp nsp => ?_⟩
              have ssp := same_upd (o := .tup [.str e.2.1, .int (Rg.pl (S ++ R).length S.length (u.2 + 1) : Nat)]) nsp
              have hsp := upd_same (H := Hj) (a := sp) (o := .tup [.str e.2.1, .int (Rg.pl (S ++ R).length S.length (u.2 + 1) : Nat)])
              have hRs := hRj.same ssp
              have hts := ssp _ _ htj
              have hdgs := ssp _ _ (upT hdg10)
              have hk2s := ssp _ _ (upT k2)
              have hsfs := ssp _ _ (kj _ _ sfR hsf10)
              have kjs : ∀ c o, c ≠ Rd0 → H10 c = some o → upd Hj sp (.tup [.str e.2.1, .int (Rg.pl (S ++ R).length S.length (u.2 + 1) : Nat)]) c = some o := fun c o h e => ssp _ _ (kj c o h e)
              generalize upd Hj sp (.tup [.str e.2.1, .int (Rg.pl (S ++ R).length S.length (u.2 + 1) : Nat)]) = Hs at ssp hsp hRs hts hdgs hk2s hsfs kjs ⊢
              obtain ⟨nx, hnx⟩ : ∃ nx : Pr, (e.2.1, Rg.pl (S ++ R).length S.length (u.2 + 1)) = nx := ⟨_, rfl⟩
              have nx1 : nx.1 ∈ ns := by rw [← hnx]; exact enx
              have nx2 : nx.2 < (S ++ R).length := by rw [← hnx]; exact pll
              have hspn : Hs sp = some (.tup ((qk nx).map kV)) := by rw [← hnx]; exact hsp
              have keep : ¬ (e.1 = (S ++ R).getD u.2 0 ∧ nx ∈ fs) → RowP Hs Rd0 fs (gE2 (wholeS Rw) (S ++ R) S.length (es.take (j + 1)) u) := fun nc => hRs.cong fun p hp => by
                unfold gE2
                have hz : (if e.1 = (S ++ R).getD u.2 0 ∧ nx = p then pE (wholeS Rw) e else 0) = 0 := if_neg fun z => nc ⟨z.1, by rw [z.2]; exact hp⟩
                rw [tk, nE_snoc, hnx, hz, Int.add_zero]
              refine ⟨fun σ H' => (∀ c o, c ≠ Rd0 → Hs c = some o → H' c = some o) ∧ σ = [some (.ref rr), some (.str x), some (.ref st), some (.ref rg), some (.int (if wl = true then 0 else 1)), some (.ref dg), some (.ref pa), some (.ref fr), some (.ref sf), some (.ref wa), some (.ref sa), some (.str u.1), some (.int (u.2 : Nat)), some (.ref sp), some (.ref Rd0), some (.ref tt), some (.int e.1), some (.str e.2.1), some (.ref sj)] ∧ RowP H' Rd0 fs (gE2 (wholeS Rw) (S ++ R) S.length (es.take (j + 1)) u), ?_, ?_⟩
              · refine ⟨_, rfl, _, rfl, _, rfl, dg, _, _, _, rfl, rfl, SqT.of hdgs, atd, rfl, _, rfl, ?_⟩
                by_cases c1 : e.1 = (S ++ R).getD u.2 0
                · refine ifT (by rw [c1]; exact decide_eq_true rfl) ?_
                  obtain ⟨kv, r1, r2, r3, r4⟩ := id hRs
                  refine ⟨_, rfl, _, rfl, Rd0, _, rfl, DGet.t (k := qk nx) r1 hspn, ?_⟩
                  rw [r3]
                  refine ⟨_, rfl, ?_⟩
                  by_cases c2 : nx ∈ fs
                  · rw [decide_eq_true c2]
                    refine ifT rfl ?_
                    obtain ⟨t, et, ht⟩ := r4 nx c2
                    refine ⟨_, rfl, _, rfl, Rd0, .ref t, rfl, by rw [← et]; exact DGet.t (k := qk nx) r1 hspn, ?_⟩
                    refine ⟨_, rfl, sj, _, 0, _, rfl, rfl, SqT.of hk2s, rfl, _, _, rfl, rfl, ?_⟩
                    refine ⟨_, rfl, sj, _, 1, _, rfl, rfl, SqT.of hk2s, rfl, by show 2 ≤ sizeLine; rw [sizeLine_eq]; decide, fun pq npq => ?_⟩
                    have spq := same_upd (o := .tup [.int (0 - e.2.2.1), .int e.2.2.2]) npq
                    have hpq := upd_same (H := Hs) (a := pq) (o := .tup [.int (0 - e.2.2.1), .int e.2.2.2])
                    generalize upd Hs pq (.tup [.int (0 - e.2.2.1), .int e.2.2.2]) = Hq at spq hpq ⊢
                    have W0 : (0 : Int) < (wholeS Rw : Nat) := by omega
                    have bn := nE_le (digs := S ++ R) (r0 := S.length) (v := nx) BO un j
                    rw [hes] at bn
                    have bd1 : ((if nx = u then (wholeS Rw : Int) else 0) - nE (wholeS Rw) (S ++ R) S.length (es.take j) u nx).natAbs < 2 ^ 60 := by split <;> omega
                    have ht' : Hs t = some (pV (lowP ((if nx = u then (wholeS Rw : Int) else 0) - nE (wholeS Rw) (S ++ R) S.length (es.take j) u nx) (wholeS Rw : Nat))) := ht
                    obtain ⟨Pv, hPv⟩ : ∃ Pv, ((if nx = u then (wholeS Rw : Int) else 0) - nE (wholeS Rw) (S ++ R) S.length (es.take j) u nx) = Pv := ⟨_, rfl⟩
                    rw [hPv] at bd1 ht'
                    obtain ⟨b1, b2⟩ := low_le (a := Pv) W0
                    refine ⟨t, pq, (lowP Pv (wholeS Rw : Nat)).1, (lowP Pv (wholeS Rw : Nat)).2, _, _, rfl, spq _ _ ht', hpq, low_pos W0, d1, nat_up (Nat.lt_of_le_of_lt b1 bd1) (by decide), nat_up (Nat.lt_of_le_of_lt b2 (show ((wholeS Rw : Nat) : Int).natAbs < 2 ^ 36 by omega)) (by decide), nat_up (show (0 - e.2.2.1).natAbs < 2 ^ 7 by omega) (by decide), nat_up (show e.2.2.2.natAbs < 2 ^ 7 by omega) (by decide), fun TT nTT => ?_⟩
                    rw [show lowV ((lowP Pv (wholeS Rw : Nat)).1 * e.2.2.2 + (0 - e.2.2.1) * (lowP Pv (wholeS Rw : Nat)).2) ((lowP Pv (wholeS Rw : Nat)).2 * e.2.2.2) = pV (lowP (Pv + (0 - pE (wholeS Rw) e)) (wholeS Rw : Nat)) by rw [lowV_eq, sub_part (by omega) d1 pm]; rfl]
                    have sTT := same_upd (o := pV (lowP (Pv + (0 - pE (wholeS Rw) e)) (wholeS Rw : Nat))) nTT
                    have hTT := upd_same (H := Hq) (a := TT) (o := pV (lowP (Pv + (0 - pE (wholeS Rw) e)) (wholeS Rw : Nat)))
                    rw [← hPv] at sTT hTT ⊢
                    have sqq := spq.trans sTT
                    obtain ⟨kv', r1', r2', r3', r4'⟩ := hRs.same sqq
                    refine ⟨_, rfl, _, rfl, Rd0, _, rfl, DPut.t (k := qk nx) r1' (sqq _ _ hspn) (by rw [sizeLine_eq]; omega), ?_⟩
                    refine ⟨fun c o h e => by rw [upd_ne h]; exact sqq _ _ e, rfl, ?_⟩
                    refine (RowP.put r1' r2' r3' r4' c2 hTT).cong fun p hp => ?_
                    unfold gE2
                    rw [tk, nE_snoc, hnx]
                    by_cases c3 : p = nx
                    · subst c3
                      have hz : (if e.1 = (S ++ R).getD u.2 0 ∧ p = p then pE (wholeS Rw) e else 0) = pE (wholeS Rw) e := if_pos ⟨c1, rfl⟩
                      rw [if_pos rfl, hz]
                      congr 1
                      omega
                    · have hz : (if e.1 = (S ++ R).getD u.2 0 ∧ nx = p then pE (wholeS Rw) e else 0) = 0 := if_neg fun z => c3 z.2.symm
                      rw [if_neg c3, hz, Int.add_zero]
                  · rw [decide_eq_false c2]
                    refine ifF rfl ⟨fun c o _ e => e, rfl, keep fun z => c2 z.2⟩
                · refine ifF (decide_eq_false fun z => c1 (by injection z)) ?_
                  exact ⟨fun c o _ e => e, rfl, keep fun z => c1 z.1⟩
              · rintro σ H' ⟨kh, rfl, hR'⟩
                obtain ⟨kvs', hkvs', _⟩ := id hRs
                have upS : ∀ {c : Addr} {xs : List V}, Hs c = some (.tup xs) → H' c = some (.tup xs) := fun {c xs} e => kh _ _ (fun z => by rw [z, hkvs'] at e; cases e) e
                have hdg' := upS hdgs
                have hk2' := upS hk2s
                have hsf' := kh _ _ sfR hsfs
                have hsp' := upS hspn
                have W0 : (0 : Int) < (wholeS Rw : Nat) := by omega
                have bn1 := nS_le (wl := wl) (digs := S ++ R) (r0 := S.length) BO un j
                rw [hes] at bn1
                have htt' := upS hts
                obtain ⟨Nv, hNv⟩ : ∃ Nv, nS wl ns Rw (S ++ R) S.length (es.take j) u = Nv := ⟨_, rfl⟩
                rw [hNv] at bn1 htt'
                replace bn1 : Nv.natAbs < 2 ^ 60 := Nat.lt_of_le_of_lt bn1 (by decide)
                obtain ⟨b1, b2⟩ := low_le (a := Nv) W0
                have inks : nx ∈ ks ↔ ¬ AwN ns Rw (S ++ R) S.length e.2.1 (Rg.pl (S ++ R).length S.length (u.2 + 1)) := by
                  rw [← hnx]
                  exact ⟨fun z => ((gm _ _).mp z).2.2, fun z => (gm _ _).mpr ⟨enx, pll, z⟩⟩
                refine ⟨_, rfl, _, rfl, _, rfl, dg, _, _, _, rfl, rfl, SqT.of hdg', atd, _, _, rfl, rfl, _, rfl, ?_⟩
                cases wl with
                | true =>
                  by_cases g : (S ++ R).getD u.2 0 < e.1
                  · refine ifT (decide_eq_true g) ?_
                    refine ⟨_, rfl, rfl, _, rfl, ?_⟩
                    refine ifT (by decide) ?_
                    refine ⟨_, rfl, _, rfl, tt, sj, (lowP Nv (wholeS Rw : Nat)).1, (lowP Nv (wholeS Rw : Nat)).2, e.2.2.1, e.2.2.2, rfl, htt', hk2', low_pos W0, d1, nat_up (Nat.lt_of_le_of_lt b1 bn1) (by decide), nat_up (Nat.lt_of_le_of_lt b2 (show ((wholeS Rw : Nat) : Int).natAbs < 2 ^ 36 by omega)) (by decide), nat_up (show e.2.2.1.natAbs < 2 ^ 7 by omega) (by decide), nat_up (show e.2.2.2.natAbs < 2 ^ 7 by omega) (by decide), fun TT nTT => ?_⟩
                    rw [show lowV ((lowP Nv (wholeS Rw : Nat)).1 * e.2.2.2 + e.2.2.1 * (lowP Nv (wholeS Rw : Nat)).2) ((lowP Nv (wholeS Rw : Nat)).2 * e.2.2.2) = pV (lowP (Nv + pE (wholeS Rw) e) (wholeS Rw : Nat)) by rw [lowV_eq, add_part (by omega) d1 pm]; rfl]
                    have sTT := same_upd (o := pV (lowP (Nv + pE (wholeS Rw) e) (wholeS Rw : Nat))) nTT
                    refine ⟨fun c o h q => sTT _ _ (kh _ _ h (kjs _ _ h q)), TT, _, _, _, _, rfl, hR'.same sTT, ?_⟩
                    rw [upd_same, tk, nS_snoc, if_pos (.inl ⟨rfl, g⟩), hNv]
                  · refine ifF (decide_eq_false g) ?_
                    have nc : ¬ (((true : Bool) = true ∧ (S ++ R).getD u.2 0 < e.1) ∨ ((true : Bool) = false ∧ e.1 = (S ++ R).getD u.2 0 ∧ ¬ AwN ns Rw (S ++ R) S.length e.2.1 (Rg.pl (S ++ R).length S.length (u.2 + 1)))) := fun z => z.elim (fun z => g z.2) fun z => by cases z.1
                    refine ⟨_, rfl, _, rfl, _, rfl, dg, _, _, _, rfl, rfl, SqT.of hdg', atd, rfl, _, rfl, ?_⟩
                    by_cases c1 : e.1 = (S ++ R).getD u.2 0
                    · refine ifT (by rw [c1]; exact decide_eq_true rfl) ?_
                      refine ⟨_, rfl, _, rfl, sf, _, rfl, DGet.t (k := qk nx) hsf' hsp', ?_⟩
                      rw [dtv_val]
                      refine ⟨_, rfl, ?_⟩
                      by_cases c2 : nx ∈ ks
                      · rw [decide_eq_true c2]
                        refine ifT rfl ⟨_, rfl, rfl, _, rfl, ?_⟩
                        refine ifF (by decide) ?_
                        exact ⟨fun c o h q => kh _ _ h (kjs _ _ h q), tt, _, _, _, _, rfl, hR', by rw [tk, nS_snoc, if_neg nc, Int.add_zero, hNv]; exact htt'⟩
                      · rw [decide_eq_false c2]
                        refine ifF rfl ?_
                        exact ⟨fun c o h q => kh _ _ h (kjs _ _ h q), tt, _, _, _, _, rfl, hR', by rw [tk, nS_snoc, if_neg nc, Int.add_zero, hNv]; exact htt'⟩
                    · refine ifF (decide_eq_false fun z => c1 (by injection z)) ?_
                      exact ⟨fun c o h q => kh _ _ h (kjs _ _ h q), tt, _, _, _, _, rfl, hR', by rw [tk, nS_snoc, if_neg nc, Int.add_zero, hNv]; exact htt'⟩
                | false =>
                  have second : ¬ ((S ++ R).getD u.2 0 < e.1 ∧ False) := fun z => z.2
                  by_cases c1 : e.1 = (S ++ R).getD u.2 0
                  · have g : ¬ (S ++ R).getD u.2 0 < e.1 := by omega
                    refine ifF (decide_eq_false g) ?_
                    refine ⟨_, rfl, _, rfl, _, rfl, dg, _, _, _, rfl, rfl, SqT.of hdg', atd, rfl, _, rfl, ?_⟩
                    refine ifT (by rw [c1]; exact decide_eq_true rfl) ?_
                    refine ⟨_, rfl, _, rfl, sf, _, rfl, DGet.t (k := qk nx) hsf' hsp', ?_⟩
                    rw [dtv_val]
                    refine ⟨_, rfl, ?_⟩
                    by_cases c2 : nx ∈ ks
                    · rw [decide_eq_true c2]
                      refine ifT rfl ⟨_, rfl, rfl, _, rfl, ?_⟩
                      refine ifT (by decide) ?_
                      refine ⟨_, rfl, _, rfl, tt, sj, (lowP Nv (wholeS Rw : Nat)).1, (lowP Nv (wholeS Rw : Nat)).2, e.2.2.1, e.2.2.2, rfl, htt', hk2', low_pos W0, d1, nat_up (Nat.lt_of_le_of_lt b1 bn1) (by decide), nat_up (Nat.lt_of_le_of_lt b2 (show ((wholeS Rw : Nat) : Int).natAbs < 2 ^ 36 by omega)) (by decide), nat_up (show e.2.2.1.natAbs < 2 ^ 7 by omega) (by decide), nat_up (show e.2.2.2.natAbs < 2 ^ 7 by omega) (by decide), fun TT nTT => ?_⟩
                      rw [show lowV ((lowP Nv (wholeS Rw : Nat)).1 * e.2.2.2 + e.2.2.1 * (lowP Nv (wholeS Rw : Nat)).2) ((lowP Nv (wholeS Rw : Nat)).2 * e.2.2.2) = pV (lowP (Nv + pE (wholeS Rw) e) (wholeS Rw : Nat)) by rw [lowV_eq, add_part (by omega) d1 pm]; rfl]
                      have sTT := same_upd (o := pV (lowP (Nv + pE (wholeS Rw) e) (wholeS Rw : Nat))) nTT
                      refine ⟨fun c o h q => sTT _ _ (kh _ _ h (kjs _ _ h q)), TT, _, _, _, _, rfl, hR'.same sTT, ?_⟩
                      rw [upd_same, tk, nS_snoc, if_pos (.inr ⟨rfl, c1, inks.mp c2⟩), hNv]
                    · rw [decide_eq_false c2]
                      refine ifF rfl ?_
                      have nc : ¬ (((false : Bool) = true ∧ (S ++ R).getD u.2 0 < e.1) ∨ ((false : Bool) = false ∧ e.1 = (S ++ R).getD u.2 0 ∧ ¬ AwN ns Rw (S ++ R) S.length e.2.1 (Rg.pl (S ++ R).length S.length (u.2 + 1)))) := fun z => z.elim (fun z => by cases z.1) fun z => c2 (inks.mpr z.2.2)
                      exact ⟨fun c o h q => kh _ _ h (kjs _ _ h q), tt, _, _, _, _, rfl, hR', by rw [tk, nS_snoc, if_neg nc, Int.add_zero, hNv]; exact htt'⟩
                  · have nc : ¬ (((false : Bool) = true ∧ (S ++ R).getD u.2 0 < e.1) ∨ ((false : Bool) = false ∧ e.1 = (S ++ R).getD u.2 0 ∧ ¬ AwN ns Rw (S ++ R) S.length e.2.1 (Rg.pl (S ++ R).length S.length (u.2 + 1)))) := fun z => z.elim (fun z => by cases z.1) fun z => c1 z.2.1
                    by_cases g : (S ++ R).getD u.2 0 < e.1
                    · refine ifT (decide_eq_true g) ?_
                      refine ⟨_, rfl, rfl, _, rfl, ?_⟩
                      refine ifF (by decide) ?_
                      refine ⟨_, rfl, _, rfl, _, rfl, dg, _, _, _, rfl, rfl, SqT.of hdg', atd, rfl, _, rfl, ?_⟩
                      refine ifF (decide_eq_false fun z => c1 (by injection z)) ?_
                      exact ⟨fun c o h q => kh _ _ h (kjs _ _ h q), tt, _, _, _, _, rfl, hR', by rw [tk, nS_snoc, if_neg nc, Int.add_zero, hNv]; exact htt'⟩
                    · refine ifF (decide_eq_false g) ?_
                      refine ⟨_, rfl, _, rfl, _, rfl, dg, _, _, _, rfl, rfl, SqT.of hdg', atd, rfl, _, rfl, ?_⟩
                      refine ifF (decide_eq_false fun z => c1 (by injection z)) ?_
                      exact ⟨fun c o h q => kh _ _ h (kjs _ _ h q), tt, _, _, _, _, rfl, hR', by rw [tk, nS_snoc, if_neg nc, Int.add_zero, hNv]; exact htt'⟩
            · rintro σ Hj ⟨kj, tt, y13, y16, y17, y18, rfl, hRj, htj⟩
              rw [List.length_map, w2, List.take_length] at hRj htj
              have soj : Same Ho Hj := fun c o e => kj c o (fun z => by rw [z, nRo] at e; cases e) (so10 _ _ e)
              have hwaj := soj _ _ hwa
              have hsaj := soj _ _ hsa
              refine ⟨_, rfl, .inl ⟨rfl, _, SqL.of hwaj⟩, ?_⟩
              refine ⟨_, rfl, fr, rfl, ⟨_, SqL.of (soj _ _ (so _ _ a1))⟩, fun D2 nD2 => ?_⟩
              refine lc_pr (walk_list (K := K) (a := fr) (xs := as.map V.ref)) (fun j v Hx => ∃ t : Addr, v = .ref t ∧ ∀ p, fs[j]? = some p → Hx t = some (pV (gE2 (wholeS Rw) (S ++ R) S.length es u p))) (fun j v Ha Hb kp ⟨t, e, g⟩ => ⟨t, e, fun p hp => kp _ _ (g p hp)⟩) nD2 (by rw [List.length_map, a2, sizeLine_eq]; omega) (fun Hc sc => SqL.of (sc _ _ (soj _ _ (so _ _ a1)))) (fun j v Ha Hb hj2 sb yy Q2 R2 q2 => ?_) fun Hx vs6 s6 hD2 lvs6 hvs6 => ?_
              · obtain ⟨rfl, hv⟩ := yy
                obtain ⟨aj, haj, rfl⟩ := at_ref hv
                rw [List.length_map, a2] at hj2
                have hpj := List.getElem?_eq_getElem hj2
                have hajt := sb _ _ (soj _ _ (so _ _ (a3 j aj _ haj hpj)))
                obtain ⟨kv, r1, r2, r3, r4⟩ := hRj.same sb
                obtain ⟨t, et, ht⟩ := r4 _ (List.mem_of_getElem? hpj)
                refine ⟨rfl, tyes ?_⟩
                refine ⟨_, rfl, _, rfl, Rd0, .ref t, rfl, by rw [← et]; exact DGet.t (k := qk fs[j]) r1 hajt, q2 _ _ (Same.refl _) ⟨t, rfl, fun p hp => ?_⟩⟩
                rw [hpj] at hp
                obtain rfl := Option.some.inj hp
                exact ht
              · rw [List.length_map, a2] at lvs6
                obtain ⟨bs, lb, hb⟩ := choose_n (α := Addr) (Pr := fun j t => vs6[j]? = some (.ref t) ∧ ∀ p, fs[j]? = some p → Hx t = some (pV (gE2 (wholeS Rw) (S ++ R) S.length es u p))) fs.length fun j hj => by
                  obtain ⟨t, e, g⟩ := hvs6 j _ (List.getElem?_eq_getElem (show j < vs6.length by omega))
                  exact ⟨t, by rw [List.getElem?_eq_getElem (show j < vs6.length by omega), e], g⟩
                have eus6 : vs6 = bs.map V.ref := list_by _ (by omega) fun j t h => (hb j t h).1
                rw [eus6] at hD2
                have frl : FrL Hx D2 fs.length (fun j => eP M (wholeS Rw : Nat) 0 i j) := by
                  refine ⟨bs, hD2, lb, fun j t g => ?_⟩
                  have hpj := List.getElem?_eq_getElem (show j < fs.length by have := (List.getElem?_eq_some_iff.mp g).1; omega)
                  rw [(hb j t g).2 _ hpj]
                  dsimp only
                  rw [← hM, mM_at BO nd inn hu hpj, hes]; rfl
                have htx : Hx tt = some (pV (eP M (wholeS Rw : Nat) 0 i fs.length)) := by
                  rw [s6 _ _ htj, ← hM, mM_last BO inn hu, hes]
                have sox := soj.trans s6
                have hwax := sox _ _ hwa
                have hsax := sox _ _ hsa
                have D2o : Ho D2 = none := soj.free nD2
                have D2w : D2 ≠ wa := fun z => by rw [z, hwa] at D2o; cases D2o
                have D2s : D2 ≠ sa := fun z => by rw [z, hsa] at D2o; cases D2o
                refine ⟨wa, _, _, rfl, rfl, hwax, by rw [List.length_map, lds, sizeLine_eq]; omega, ?_⟩
                have hsay : upd Hx wa (.lst (ds.map V.ref ++ [.ref D2])) sa = some (.lst (us.map V.ref)) := by rw [upd_ne (Ne.symm wsa)]; exact hsax
                refine ⟨_, rfl, .inl ⟨rfl, _, SqL.of hsay⟩, _, rfl, sa, _, _, rfl, rfl, hsay, by rw [List.length_map, lus, sizeLine_eq]; omega, ?_⟩
                have upp : ∀ c o, c ≠ wa → c ≠ sa → Hx c = some o → upd (upd Hx wa (.lst (ds.map V.ref ++ [.ref D2]))) sa (.lst (us.map V.ref ++ [.ref tt])) c = some o := fun c o h1 h2 e => by rw [upd_ne h2, upd_ne h1]; exact e
                have nwaH2 : H2 wa = none := nwa
                refine ⟨fun c o e => upp c o (fun z => by rw [z, nwaH2] at e; cases e) (fun z => by rw [z, nsa2] at e; cases e) (sox _ _ (so _ _ e)), ⟨_, _, _, _, _, _, _, _, rfl⟩, ⟨ds ++ [D2], by rw [upd_ne wsa, upd_same, List.map_append]; rfl, by rw [List.length_append, lds]; rfl, fun j d g => ?_⟩, us ++ [tt], by rw [upd_same, List.map_append]; rfl, by rw [List.length_append, lus]; rfl, fun j t g => ?_⟩
                · rcases snoc_at g with ⟨c, g2⟩ | ⟨c, rfl⟩
                  · obtain ⟨q1, q2, q3⟩ := hds j d g2
                    exact ⟨q1, q2, ((q3.same sox).put q1 hwax).put q2 hsay⟩
                  · rw [c, lds]
                    exact ⟨D2w, D2s, (frl.put D2w hwax).put D2s hsay⟩
                · rcases snoc_at g with ⟨c, g2⟩ | ⟨c, rfl⟩
                  · have q := sox _ _ (hus j t g2)
                    exact upp _ _ (pV_ne q hwax) (pV_ne q hsax) q
                  · rw [c, lus]
                    exact upp _ _ (pV_ne htx hwax) (pV_ne htx hsax) htx
      · rintro σ Ho ⟨so, ⟨y11, y12, y13, y14, y15, y16, y17, y18, rfl⟩, ⟨ds, hwa, lds, hds⟩, us, hsa, lus, hus⟩
        rw [List.length_map, a2] at lds lus
        have W0 : (0 : Int) < (wholeS Rw : Nat) := by omega
        obtain ⟨bS', bD'⟩ := mM_sys (wl := wl) (digs := S ++ R) (r0 := S.length) BO n0 inn l24
        obtain ⟨bS0, bD0⟩ := mM_sys0 (wl := wl) (digs := S ++ R) (r0 := S.length) BO n0 inn l24
        have zw := mass_zw (wl := wl) BO BD.nod hR nd mem
        have pv := (zw.all _ (Nat.le_refl _)).2.1
        have MI := fun i (hi : fs[i]? = some (x, 0)) => mass_eq (wl := wl) BO BD.nod hR nd mem hi
        rw [hM] at bS' bD' bS0 bD0 zw pv MI
        refine ⟨_, rfl, _, rfl, wa, sa, fs.length, M, (wholeS Rw : Nat), rfl, wsa, by omega, zw, W0, Nat.lt_of_lt_of_le (show ((wholeS Rw : Nat) : Int).natAbs < 2 ^ 36 by omega) (Nat.pow_le_pow_right (by decide) (by decide)), bS', bD', ⟨ds, hwa, lds, hds⟩, ⟨us, hsa, lus, hus⟩, fun H8 k8 g8 => ?_⟩
        have so8 : Same H2 H8 := fun c o e => k8 c o (fun z => by rw [z, nwa] at e; cases e) (fun z => by rw [z, nsa2] at e; cases e) (so _ _ e)
        obtain ⟨i, hil, hie⟩ := List.mem_iff_getElem.mp xf
        have hi : fs[i]? = some (x, 0) := by rw [List.getElem?_eq_getElem hil, hie]
        obtain ⟨vs8, v1, v2, v3⟩ := g8
        have hv8 := List.getElem?_eq_getElem (show i < vs8.length by omega)
        generalize vs8[i] = t8 at hv8
        have ht8 := v3 i t8 hv8
        refine ⟨_, rfl, .inl ⟨rfl, _, SqL.of (so8 _ _ a1)⟩, _, rfl, by show 2 ≤ sizeLine; rw [sizeLine_eq]; decide, fun q nq => ?_⟩
        have sq := same_upd (o := .tup [.str x, .int 0]) nq
        have DL : Dp K (upd H8 q (.tup [.str x, .int 0])) (.ref fr) (.list (fs.map prD)) := by
          refine .lst (SqL.of (sq _ _ (so8 _ _ a1))) ?_
          exact dp_prs a2 fun j t p g1 g2 => sq _ _ (so8 _ _ (a3 j t p g1 g2))
        refine ⟨fr, .ref q, prD (x, 0), fs.map prD, i, prD (x, 0), rfl, rfl, DL, .tup (SqT.of upd_same) (.cons (.str x) (.cons (.int 0) .nil)), shaped_prs fs (fun p hp => sok _ (inn p hp)), shaped_pr _ (sok x hx), by rw [List.getElem?_map, hi]; rfl, by rw [eqv_prD]; exact decide_eq_true rfl, fun m z' hm hz' => ?_, ?_⟩
        · rw [List.getElem?_map, List.getElem?_eq_getElem (show m < fs.length by omega)] at hz'
          obtain rfl := Option.some.inj hz'
          rw [eqv_prD]
          refine decide_eq_false fun z => ?_
          have := (List.getElem?_inj (show m < fs.length by omega) nd).mp ((List.getElem?_eq_getElem (show m < fs.length by omega)).trans (by rw [z, ← hi]))
          omega
        · refine ⟨sa, _, _, _, rfl, rfl, SqL.of (sq _ _ v1), atI_nat (by rw [List.getElem?_map, hv8]; rfl), ?_⟩
          exact k t8 _ _ _ ((s2.trans so8).trans sq) (sq _ _ ht8) (.inr ⟨_, _, pv, bS0 _ _ _ (Nat.le_refl _), bD0 _ (Nat.le_refl _), rfl, MI i hi⟩)
end
end My

set_option linter.all false
namespace My
open PySem PySem.Spec PyProof.Rows L2
def spLaw (K : PySem.W.Frag) : Sp := fun vs H Q _ => ∃ (a : Addr) (ns : List Int), vs = [.ref a] ∧ SqL K H a (ns.map V.int) ∧ ns.length ≤ 63 ∧ ∀ H', Q (.bl true) H'
theorem dx_strs {w : World} {G : Hp} : ∀ ns : List Str, DxAll w G (ns.map V.str) (ns.map PyData.str)
  | [] => .nil
  | x :: ns => .cons (.str x) (dx_strs ns)
theorem refs_dx {w : World} {G : Hp} : ∀ {ds : List (List PyData)} {vs : List V}, DxAll w G vs (ds.map PyData.tuple) → ∃ qs : List Addr, vs = qs.map V.ref ∧ qs.length = ds.length ∧ ∀ (i : Nat) (q : Addr) (d : List PyData), qs[i]? = some q → ds[i]? = some d → Dx w G (.ref q) (.tuple d)
  | [], _, h => by cases h; exact ⟨[], rfl, rfl, fun i q d h => by simp at h⟩
  | d :: ds, _, h => by
    cases h with
    | cons a r =>
      obtain ⟨qs, rfl, l, hh⟩ := refs_dx r
      cases a with
      | tup g t =>
        refine ⟨_ :: qs, rfl, by rw [List.length_cons, List.length_cons, l], fun i q d' g1 g2 => ?_⟩
        cases i with
        | zero => cases g1; cases g2; exact .tup g t
        | succ i => exact hh i q d' (by simpa using g1) (by simpa using g2)
theorem sz_i {i : Int} {k : Nat} (h : i.natAbs < 2 ^ k) (h0 : 0 < k) (h1 : k ≤ 1920) : Sz 1921 0 (.int i) := by
  have hl : i.natAbs.log2 < 1920 := Nat.lt_of_lt_of_le (PySem.Flt.log2_lt_of h0 h) h1
  exact ⟨by simp only [PyData.showable]; exact decide_eq_true hl, int_text_len_1921 hl, by simp only [PyData.depth]; omega⟩
theorem sz_two {a b : PyData} {B k : Nat} (h1 : Sz B k a) (h2 : Sz B k b) : Sz (2 * (B + 2) + 3) (k + 1) (.tuple [a, b]) := sz_tup (n := 2) (fun d hd => by
  rcases List.mem_cons.mp hd with rfl | hd
  · exact h1
  · rw [List.mem_singleton.mp hd]; exact h2) (Nat.le_refl 2)
def bookD2 (b : Int) (ns : List Str) (Rw : List (List Ent)) : PyData := .tuple [.int b, .dict ((ns.map PyData.str).zip (Rw.map fun es => PyData.tuple (es.map entD)))]
theorem bookD2_sz {b : Int} {ns : List Str} {Rw : List (List Ent)} {B : Nat} (h : BkOk b ns Rw B) (hn : ∀ x ∈ ns, NameOk x) : Sz 3459299 5 (bookD2 b ns Rw) := by
  have small : ∀ i : Int, i.natAbs ≤ 100 → Sz 1921 0 (.int i) := fun i hi => sz_i (k := 64) (Nat.lt_of_le_of_lt hi (by decide)) (by decide) (by decide)
  have b2 := h.b2
  have b10 := h.b10
  have ent : ∀ es ∈ Rw, ∀ e ∈ es, Sz 12009 2 (entD e) := fun es hes e he => by
    obtain ⟨k1, k2, k3, k4, k5, k6, k7, _⟩ := (h.ent.row es hes).2 e he
    refine sz_tup (B := 4000) (k := 1) (n := 3) (fun d hd => ?_) (by show 3 ≤ 3; decide)
    simp only [List.mem_cons, List.not_mem_nil, or_false] at hd
    rcases hd with rfl | rfl | rfl
    · exact (small _ (by omega)).up (by decide) (by decide)
    · exact (Sz.shw (shw_str (hn _ k3))).up (by decide) (by decide)
    · exact (sz_two (small _ (by omega)) (small _ (by omega))).up (by decide) (by decide)
  have rw1 : ∀ es ∈ Rw, Sz 144135 3 (.tuple (es.map entD)) := fun es hes => sz_tup (B := 12009) (k := 2) (n := 12) (fun d hd => by
    obtain ⟨e, he, rfl⟩ := List.mem_map.mp hd
    exact ent es hes e he) (by rw [List.length_map]; exact (h.ent.row es hes).1)
  have dct := sz_dct (B := 144135) (k := 3) (n := 6) (ds := (ns.map PyData.str).zip (Rw.map fun es => PyData.tuple (es.map entD))) (fun d hd => by
    have h1 := (List.of_mem_zip hd).1
    have h2 := (List.of_mem_zip hd).2
    obtain ⟨x, hx, e1⟩ := List.mem_map.mp h1
    obtain ⟨es, hes, e2⟩ := List.mem_map.mp h2
    rw [← e1, ← e2]
    exact ⟨(Sz.shw (shw_str (hn _ hx))).up (by decide) (by decide), rw1 es hes⟩) (by rw [List.length_zip, List.length_map, List.length_map]; have := h.len; omega)
  exact sz_two (B := 1729646) (k := 4) ((small b (by omega)).up (by decide) (by decide)) dct
end My

set_option linter.all false
namespace My
open PySem PySem.Spec PyProof.Rows L2
abbrev sLaw70 : Stmt := topS 37
theorem strOkN {x : Str} (h : NameOk x) : PyData.strOk x = true := by
  unfold PyData.strOk
  rw [← Array.all_toList]
  exact List.all_eq_true.mpr fun c hc => decide_eq_true (by have := h.lets c hc; omega)
structure TxL70 (mg : Str → Option Value) : Prop where
  range : mg "range" = none
  repr : mg "repr" = none
/-- one less what comes above is what the program tells -/
theorem due70 {b : Int} {ns : List Str} {Rw : List (List Ent)} {B : Nat} {S R : List Int} {x : Str} {u d : Int} (h : BkOk b ns Rw B) (hx : x ∈ ns) (hS : S.length ≤ 8) (hR8 : R.length ≤ 8) (hR : R ≠ []) (mi : MassIs true ns Rw S R x u d) : 0 < d ∧ d.natAbs < 2 ^ 1100 ∧ (d - u).natAbs < 2 ^ 1101 ∧ lowP (d - u) d = lowP (prT true ns Rw S R x) (prB true ns Rw S R) := by
  have B0 := (prB_lt (wl := true) h hx hS hR8).1
  rcases mi with ⟨a, rfl, rfl⟩ | ⟨X, Y, Y0, bX, bY, e, z⟩
  · refine ⟨by decide, ?_, ?_, ?_⟩
    · exact Nat.one_lt_two_pow (by decide)
    · exact Nat.one_lt_two_pow (by decide)
    · rw [mass_sure h hR hx a]
      exact low_eq (by decide) B0 (by show (1 - 0) * _ = _ * 1; omega)
  · have e1 : u = (lowP X Y).1 := congrArg (·.1) e
    have e2 : d = (lowP X Y).2 := congrArg (·.2) e
    have d0 : 0 < d := by rw [e2]; exact low_pos Y0
    have x0 : u * Y = X * d := by rw [e1, e2]; exact low_cross Y0
    obtain ⟨l1, l2⟩ := low_le (a := X) Y0
    rw [← e1] at l1
    rw [← e2] at l2
    have b1 := Nat.lt_of_le_of_lt l1 bX
    have b2 := Nat.lt_of_le_of_lt l2 bY
    refine ⟨d0, b2, by rw [Int.sub_eq_add_neg]; exact nat_add b2 (by rw [Int.natAbs_neg]; exact b1), low_eq d0 B0 ?_⟩
    simp only [if_true] at z
    generalize prB true ns Rw S R = p at z B0 ⊢
    generalize prT true ns Rw S R x = t at z ⊢
    refine Int.eq_of_mul_eq_mul_left (Int.ne_of_gt Y0) ?_
    have h1 : Y * ((d - u) * p) = d * (Y * p) - (u * Y) * p := by
      rw [Int.sub_mul, Int.mul_sub]; congr 1 <;> ac_rfl
    have h2 : X * d * p = d * (p * X) := by ac_rfl
    rw [h1, x0, h2, z, Int.mul_sub, Int.mul_sub]
    have h3 : Y * (t * d) = d * (Y * t) := by ac_rfl
    rw [h3]
    omega
theorem w0_ne {b n d : Int} {S R : List Int} (w : W0 b n d S R) : R ≠ [] := by
  rcases w with ⟨e, rfl, rfl⟩ | ⟨e, m, k, dv, rfl, rfl⟩
  · exact fun z => by cases z
  · have lt := dv.lt
    intro z
    have l := congrArg List.length z
    rw [List.length_drop, dl_len] at l
    simp at l
    omega
theorem ite_tc {b : Bool} {σ : List (Option V)} {H : Hp} {Q : V → Hp → Prop} (h : ∀ c : Nat, c ≤ 4 → Q (.int c) H) : if b = true then tC (.int 1) σ H Q else tC (.int 4) σ H Q := by
  split
  · exact h 1 (by decide)
  · exact h 4 (by decide)
section
variable {P : Program} {w : World} {K : PySem.W.Frag} {mg : Str → Option Value} {base : Heap}
theorem scLaw70 : FnScope ["script", "pen", "turn", "base", "many", "book", "before", "k", "spot", "stem", "ring", "name", "above"] ["script"] (defScope sLaw70) := ⟨rfl, rfl, rfl, by decide +kernel, rfl, by decide +kernel, by decide +kernel⟩
set_option maxHeartbeats 2000000 in
theorem ok_law70 {f fBg fT fOn fSd fSp fWr fMs fLo fAm fEq : Addr} {fd fdBg fdT fdOn fdSd fdSp fdWr fdMs fdLo fdAm fdEq : FuncData} (F : Fun K "law" "law" sLaw70 f fd) (T : TxL70 mg)
    (FBg : Fun K "_law_begin" "_law_begin" sBegin fBg fdBg) (GBg : FnOk P w K mg base CX0 1 fBg fdBg ["script"] (spBegin K)) (bBg : Binds K fdBg ["script"] []) (gBg : mg "_law_begin" = some (.ref fBg))
    (FT : Fun K "_law_draw" "_law_draw" sDraw fT fdT) (GT : FnOk P w K mg base CX0 2 fT fdT ["pen", "many"] spDraw) (bT : Binds K fdT ["pen", "many"] []) (gT : mg "_law_draw" = some (.ref fT))
    (FOn : Fun K "_law_one_of" "_law_one_of" sOneOf fOn fdOn) (GOn : FnOk P w K mg base CX0 3 fOn fdOn ["pen", "some"] spOneOf) (bOn : Binds K fdOn ["pen", "some"] []) (gOn : mg "_law_one_of" = some (.ref fOn))
    (FSd : Fun K "_law_shared" "_law_shared" sShared fSd fdSd) (GSd : FnOk P w K mg base CX0 5 fSd fdSd ["pen", "base", "many", "most"] (spShared w)) (bSd : Binds K fdSd ["pen", "base", "many", "most"] []) (gSd : mg "_law_shared" = some (.ref fSd))
    (FSp : Fun K "_law_drawn_spot" "_law_drawn_spot" sSpot fSp fdSp) (GSp : FnOk P w K mg base CX0 4 fSp fdSp ["pen", "base"] spSpot) (bSp : Binds K fdSp ["pen", "base"] []) (gSp : mg "_law_drawn_spot" = some (.ref fSp))
    (FWr : Fun K "_law_writing" "_law_writing" sLwr fWr fdWr) (GWr : FnOk P w K mg base CX0 1 fWr fdWr ["base", "fraction"] spLwr) (bWr : Binds K fdWr ["base", "fraction"] []) (gWr : mg "_law_writing" = some (.ref fWr))
    (FMs : Fun K "_law_mass" "_law_mass" sMs fMs fdMs) (GMs : FnOk P w K mg base CX0 4 fMs fdMs ["rows", "name", "stem", "ring", "way"] spMs) (bMs : Binds K fdMs ["rows", "name", "stem", "ring", "way"] []) (gMs : mg "_law_mass" = some (.ref fMs))
    (FLo : Fun K "_law_lowest" "_law_lowest" sLow fLo fdLo) (GLo : FnOk P w K mg base CX0 1 fLo fdLo ["top", "below"] spLow) (bLo : Binds K fdLo ["top", "below"] []) (gLo : mg "_law_lowest" = some (.ref fLo))
    (FAm : Fun K "at_most" "at_most" sAtm fAm fdAm) (GAm : FnOk P w K mg base CX0 4 fAm fdAm ["book", "name", "fraction"] (spAtm w K)) (bAm : Binds K fdAm ["book", "name", "fraction"] []) (gAm : mg "at_most" = some (.ref fAm))
    (FEq : Fun K "_law_equal" "_law_equal" sEqual fEq fdEq) (GEq : FnG P w K mg base 1 fEq fdEq ["found", "due"] (spEqual w)) (bEq : Binds K fdEq ["found", "due"] []) (gEq : mg "_law_equal" = some (.ref fEq)) :
    AtTop P w K mg base f fd ["script"] (spLaw K) := by
  refine top_ok (k := 5) F scLaw70 (fun vs H Q E h => ?_) ⟨rfl, by decide, by decide⟩ (fun cdv out s H vs Q E hr h => ?_)
  · obtain ⟨a, ns, rfl, _⟩ := h
    rfl
  · obtain ⟨a, ns0, rfl, hS, hlen, k⟩ := h
    have hr1 : Room 1 _ := hr.mono (by decide)
    have hr2 : Room 2 _ := hr.mono (by decide)
    have hr3 : Room 3 _ := hr.mono (by decide)
    have hr4 : Room 4 _ := hr.mono (by decide)
    have hr5 : Room 5 _ := hr.mono (by decide)
    have hu1 := Nat.lt_trans (Nat.add_lt_add_left (show 1 < 64 by decide) _) hr.units
    refine ⟨_, (pss_cons (ps_set (i := 1) scLaw70.nd rfl (Or.inl rfl) (pe_call GBg hr1 (by rfl) gBg FBg.kp bBg .nil pass0 (pa_cons (pv 0) pa_nil)))
      (pss_cons (ps_for PassesOwn.never rfl (pi_range1 (by rfl) T.range (pa_cons pe_int pa_nil)) (pg_name (i := 2) scLaw70.nd rfl (Or.inl rfl)) (pss_cons (ps_set (i := 3) scLaw70.nd rfl (Or.inl rfl) (pe_call GOn hr3 (by rfl) gOn FOn.kp bOn .nil pass0 (pa_cons (pv 1) (pa_cons (pe_lstS (pa_cons pe_int (pa_cons pe_int (pa_cons pe_int (pa_cons pe_int (pa_cons pe_int (pa_cons pe_int pa_nil))))))) pa_nil))))
      (C8.pss_cut (ps_set (i := 4) scLaw70.nd rfl (Or.inl rfl) (pe_ifExp (pt_cmpR op_eq (pv 2) pe_int (nomark _)) pe_int (pe_op op_add pe_int (pe_call GT hr2 (by rfl) gT FT.kp bT .nil pass0 (pa_cons (pv 1) (pa_cons pe_int pa_nil))))))
      (pss_cons (ps_set (i := 5) scLaw70.nd rfl (Or.inl rfl) (pe_frz (pe_call GSd hr5 (by rfl) gSd FSd.kp bSd .nil pass0 (pa_cons (pv 1) (pa_cons (pv 3) (pa_cons (pv 4) (pa_cons (pe_op op_add pe_int (pe_call GT hr2 (by rfl) gT FT.kp bT .nil pass0 (pa_cons (pv 1) (pa_cons pe_int pa_nil)))) pa_nil)))))))
      (pss_cons (ps_set (i := 6) scLaw70.nd rfl (Or.inl rfl) (pe_callB (cr_reprX rfl hr.repr) (by rfl) T.repr boot_repr (pa_cons (pv 5) pa_nil)))
      (pss_cons (ps_for PassesOwn.never rfl (pi_range1 (by rfl) T.range (pa_cons (pe_ifExp (pt_cmpR op_eq (pv 4) pe_int (nomark _)) pe_int pe_int) pa_nil)) (pg_name (i := 7) scLaw70.nd rfl (Or.inl rfl)) (C8.pss_cut (ps_set (i := 8) scLaw70.nd rfl (Or.inl rfl) (pe_ifExp (pt_cmpR op_eq (pv 4) pe_int (nomark _)) (pe_tupS (pa_cons pe_int (pa_cons (pv 3) pa_nil))) (pe_call GSp hr4 (by rfl) gSp FSp.kp bSp .nil pass0 (pa_cons (pv 1) (pa_cons (pv 3) pa_nil)))))
      (pss_cons (ps_asg (pe_call GWr hr1 (by rfl) gWr FWr.kp bWr .nil pass0 (pa_cons (pv 3) (pa_cons (pv 8) pa_nil))) (pg_tup (by rfl) (pgs_cons (pg_name (i := 9) scLaw70.nd rfl (Or.inl rfl)) (pgs_cons (pg_name (i := 10) scLaw70.nd rfl (Or.inl rfl)) pgs_nil))))
      (pss_one (ps_for PassesOwn.never rfl (pi_keysF (pe_ix ix_tup (pv 5) pe_int (fun _ _ => rfl))) (pg_name (i := 11) scLaw70.nd rfl (Or.inl rfl)) (pss_cons (ps_set (i := 12) scLaw70.nd rfl (Or.inl rfl) (pe_call GMs hr4 (by rfl) gMs FMs.kp bMs .nil pass0 (pa_cons (pe_ix ix_tup (pv 5) pe_int (fun _ _ => rfl)) (pa_cons (pv 11) (pa_cons (pv 9) (pa_cons (pv 10) (pa_cons pe_int pa_nil)))))))
      (pss_one (ps_if (pt_not (pt_val (pe_callG GEq rfl hr1 (by rfl) gEq FEq.kp bEq (pa_cons (pe_call GAm hr4 (by rfl) gAm FAm.kp bAm .nil pass0 (pa_cons (pv 5) (pa_cons (pv 11) (pa_cons (pv 8) pa_nil)))) (pa_cons (pe_call GLo hr1 (by rfl) gLo FLo.kp bLo .nil pass0 (pa_cons (pe_op op_sub (pe_ix ix_tup (pv 12) pe_int (fun _ _ => rfl)) (pe_ix ix_tup (pv 12) pe_int (fun _ _ => rfl))) (pa_cons (pe_ix ix_tup (pv 12) pe_int (fun _ _ => rfl)) pa_nil))) pa_nil))))) (pss_one (ps_ret pe_bl)) pss_nil))))))))
      (pss_one (ps_if (pt_cmpR op_ne (pe_callB (cr_reprX rfl hr.repr) (by rfl) T.repr boot_repr (pa_cons (pv 5) pa_nil)) (pv 6) (nomark _)) (pss_one (ps_ret pe_bl)) pss_nil))))))))
      (pss_one (ps_ret pe_bl)))), ?_⟩
    refine ⟨_, rfl, a, ns0, rfl, hS, hlen, fun p pc H1 np s1 C1 => ?_⟩
    refine ⟨4, rfl, by decide, by decide, for_range (n := 4) (fun i σ H2 => ∃ (x2 x3 x4 x5 x6 x7 x8 x9 x10 x11 x12 : Option V), σ = [some (.ref a), some (.ref p), x2, x3, x4, x5, x6, x7, x8, x9, x10, x11, x12] ∧ PenD H2 p pc (10000 * i)) ⟨none, none, none, none, none, none, none, none, none, none, none, rfl, C1⟩ ?_ ?_⟩
    · rintro i σ H2 hi ⟨x2, x3, x4, x5, x6, x7, x8, x9, x10, x11, x12, rfl, C2⟩
      rw [show V.int (0 + (i : Int)) = V.int (i : Nat) by rw [Int.zero_add]]
      refine ⟨_, rfl, by show 6 ≤ sizeLine; rw [sizeLine_eq]; decide, fun l H3 s3 nl hl => ?_⟩
      have C3 := C2.same s3 (Nat.le_refl _)
      refine ⟨p, pc, 10000 * i, .ref l, rfl, C3, by omega, .inl ⟨l, _, rfl, fun z => C2.some (by rw [← z]; exact nl), hl, by simp, by simp, fun v H4 hv b4 C4 => ?_⟩⟩
      obtain ⟨b, rfl, hb⟩ : ∃ b : Int, v = .int b ∧ SpB b := by
        simp only [List.mem_cons, List.not_mem_nil, or_false] at hv
        rcases hv with rfl | rfl | rfl | rfl | rfl | rfl
        · exact ⟨2, rfl, .inl rfl⟩
        · exact ⟨2, rfl, .inl rfl⟩
        · exact ⟨3, rfl, .inr (.inl rfl)⟩
        · exact ⟨4, rfl, .inr (.inr (.inl rfl))⟩
        · exact ⟨5, rfl, .inr (.inr (.inr (.inl rfl)))⟩
        · exact ⟨10, rfl, .inr (.inr (.inr (.inr rfl)))⟩
      obtain ⟨b0, b1⟩ := hb.two
      refine ⟨fun σ H' => ∃ m : Nat, (m = 6 ∨ (1 ≤ m ∧ m ≤ 3)) ∧ PenD H' p pc (10000 * i + 2) ∧ σ = [some (.ref a), some (.ref p), some (.int (i : Nat)), some (.int b), some (.int (m : Nat)), x5, x6, x7, x8, x9, x10, x11, x12], ?_, ?_⟩
      · refine ⟨_, rfl, rfl, _, rfl, ite2 (fun _ => ?_) (fun _ => ?_)⟩
        · exact ⟨6, .inl rfl, C4.same (Same.refl _) (by omega), rfl⟩
        · refine ⟨_, rfl, p, pc, 3, _, rfl, by decide, by decide, C4, by omega, fun m H5 m0 m1 b5 C5 => ?_⟩
          obtain ⟨mn, rfl⟩ : ∃ c : Nat, m = (c : Int) := ⟨m.toNat, by omega⟩
          refine ⟨_, _, rfl, rfl, 1 + mn, .inr ⟨by omega, by omega⟩, C5, ?_⟩
          rw [Int.natCast_add]; rfl
      · rintro σ H5 ⟨m, hm, C5, rfl⟩
        have m8 : 1 ≤ m ∧ m ≤ 6 := by omega
        refine ⟨_, rfl, _, rfl, _, rfl, _, rfl, p, pc, 3, _, rfl, by decide, by decide, C5, by omega, fun m3 H6 m30 m31 b6 C6 => ?_⟩
        obtain ⟨mm, rfl⟩ : ∃ c : Nat, m3 = (c : Int) := ⟨m3.toNat, by omega⟩
        refine ⟨_, _, rfl, rfl, ?_⟩
        refine ⟨p, pc, b, m, 1 + mm, _, by rw [Int.natCast_add]; rfl, b0, b1, by omega, by omega, by omega, by omega, C6, by omega, fun bk rr ns rows kvs H8 b8 C8 nrr hbk hrr ekeys nok vals len8 rws8 => ?_⟩
        refine ⟨rr, .inl ⟨kvs, hrr, fun od df => ?_⟩⟩
        have rrp : rr ≠ p := fun z => C6.some (by rw [← z]; exact nrr)
        have rrc : rr ≠ pc := fun z => C6.at_c (by rw [← z]; exact nrr)
        have ag : ∀ c, c ≠ rr → upd H8 rr (.frz od (.dK kvs)) c = H8 c := fun c hc => upd_ne hc
        have CA := C8.agree rrp rrc ag (Nat.le_refl _)
        have pnt : ∀ ys, upd H8 rr (.frz od (.dK kvs)) p ≠ some (.tup ys) := fun ys e => by
          obtain ⟨cells, x, y, z', h1, _⟩ := CA.ex
          rw [h1] at e; cases e
        have kt : KeepT H8 (off (upd H8 rr (.frz od (.dK kvs))) p) := fun c ys e => by
          have e2 : upd H8 rr (.frz od (.dK kvs)) c = some (.tup ys) := by rw [upd_ne (fun z => by rw [z, hrr] at e; cases e)]; exact e
          rw [off_ne (fun z => pnt ys (by rw [← z]; exact e2))]; exact e2
        have hr9 : upd H8 rr (.frz od (.dK kvs)) rr = some (.frz od (.dK kvs)) := upd_same
        have hr9o : off (upd H8 rr (.frz od (.dK kvs))) p rr = some (.frz od (.dK kvs)) := by rw [off_ne rrp]; exact hr9
        have dfo : DF w (off (upd H8 rr (.frz od (.dK kvs))) p) rr (kvvs kvs) := df_leaf df hr9 hr9o fun x hx => by
          obtain ⟨kv, _, rfl⟩ := List.mem_map.mp hx
          exact kN_kv _ _
        have hbk9 := kt _ _ hbk
        have vals9 := vals.mono kt.g
        have sof := off_same (H := upd H8 rr (.frz od (.dK kvs))) (p := p)
        generalize hH9 : upd H8 rr (.frz od (.dK kvs)) = H9 at CA hbk9 hr9o vals9 dfo sof ⊢
        obtain ⟨G9, hG9⟩ : ∃ G9, off H9 p = G9 := ⟨_, rfl⟩
        rw [hG9] at hbk9 hr9o vals9 dfo sof
        have n6 : ns.length ≤ 6 := by have := nok.len; omega
        obtain ⟨Rw, B, er, BO⟩ := book_ok b0 b1 rws8 len8 n6
        obtain ⟨qs, eqs, lqs, hqs⟩ := refs_dx vals9
        have hrows : ∀ (i : Nat) (q : Addr) (es : List Ent), qs[i]? = some q → Rw[i]? = some es → RowT G9 q es := fun i q es g1 g2 => rowT_dx (w := w) (hqs i q _ g1 (by rw [er, List.getElem?_map, g2]; rfl))
        have ek1 : (kvvs kvs).map (fun x => x.2.1) = ns.map V.str := by
          unfold kvvs
          rw [List.map_map]
          show kvs.map (fun kv => kV kv.1) = _
          rw [show (fun kv : Key × V => kV kv.1) = kV ∘ (·.1) from rfl, ← List.map_map, ekeys, List.map_map]; rfl
        have ek2 : (kvvs kvs).map (fun x => x.2.2) = kvs.map (·.2) := by
          unfold kvvs
          rw [List.map_map]; rfl
        have SB : ShB w G9 bk b ns Rw := ⟨⟨rr, kvvs kvs, qs, hbk9, dfo, ek1, by rw [ek2]; exact eqs, by rw [lqs, er, List.length_map], hrows⟩, BO.nlen, nok.nod⟩
        have BD : BkD G9 rr ns Rw := ⟨⟨od, kvs, qs, hr9o, ekeys, eqs, hrows⟩, nok.nod, BO.nlen⟩
        have DB : Dx w G9 (.ref bk) (bookD2 b ns Rw) := by
          refine .tup hbk9 (.cons (.int b) (.cons (.dct dfo ?_ ?_) .nil))
          · rw [ek1, List.map_fst_zip (by rw [List.length_map, List.length_map]; have := BO.nlen; omega)]
            exact dx_strs ns
          · rw [ek2, List.map_snd_zip (by rw [List.length_map, List.length_map]; have := BO.nlen; omega)]
            have := vals9.mono (G' := G9) tupG_sub
            rw [er, List.map_map] at this
            exact this
        have SZ := bookD2_sz BO nok.ok
        have sok : ∀ y ∈ ns, PyData.strOk y = true := fun y hy => strOkN (nok.ok y hy)
        have nm : ns.length = m := nok.len
        -- shown before
        refine ⟨_, rfl, .ref bk, bookD2 b ns Rw, rfl, DB.mono sof, SZ.sh, by have := SZ.dp; omega, by have := SZ.ln; rw [sizeLine_eq]; omega, ?_⟩
        refine ⟨_, rfl, rfl, _, rfl, ite_tc (fun cc hcc => ?_)⟩
        refine ⟨_, rfl, by omega, by omega, for_range (n := cc) (fun kk σ Hk => Same G9 Hk ∧ PenD Hk p pc (10000 * i + 800 + 3 * kk) ∧ ∃ (x7 x8 x9 x10 x11 x12 : Option V), σ = [some (.ref a), some (.ref p), some (.int (i : Nat)), some (.int b), some (.int (m : Nat)), some (.ref bk), some (.str (bookD2 b ns Rw).shown), x7, x8, x9, x10, x11, x12]) ⟨sof, CA.same (Same.refl _) (by omega), _, _, _, _, _, _, rfl⟩ ?_ ?_⟩
        · rintro kk σ Hk hkk ⟨sk, Ck, x7, x8, x9, x10, x11, x12, rfl⟩
          dsimp only
          rw [show V.int (0 + (kk : Int)) = V.int (kk : Nat) by rw [Int.zero_add]]
          have pk : ∀ c o, G9 c = some o → c ≠ p := fun c o g z => by rw [← hG9, z, off_at] at g; cases g
          have sb : ∀ {H' : Hp}, But p Hk H' → Same G9 H' := fun bt c o g => bt c o (pk c o g) (sk c o g)
          refine ⟨fun σ H' => ∃ (sp : Addr) (n d : Int), H' sp = some (.tup [.int n, .int d]) ∧ SpotOk b n d ∧ (∀ S R, W0 b n d S R → m * (S.length + R.length) ≤ 24) ∧ Same G9 H' ∧ PenD H' p pc (10000 * i + 800 + 3 * (kk + 1)) ∧ σ = [some (.ref a), some (.ref p), some (.int (i : Nat)), some (.int b), some (.int (m : Nat)), some (.ref bk), some (.str (bookD2 b ns Rw).shown), some (.int (kk : Nat)), some (.ref sp), x9, x10, x11, x12], ?_, ?_⟩
          · refine ⟨_, rfl, rfl, _, rfl, ite2 (fun q => ?_) (fun q => ?_)⟩
            · have e6 : V.int (m : Int) = V.int 6 := by simpa using q
              have m6 : m = 6 := by injection e6 with e; omega
              refine ⟨_, rfl, by show 2 ≤ sizeLine; rw [sizeLine_eq]; decide, fun sp H' s7 hsp => ⟨sp, 1, b, hsp, spot_w hb (.inr (.inr (.inl ⟨rfl, rfl⟩))), fun S R w0 => ?_, sk.trans s7, Ck.same s7 (by omega), rfl⟩⟩
              have l2 := (w0_len (u := 1) (v := 2) (by decide) (by omega) (by decide) ⟨b ^ (2 - 1) - 1, by rw [show b ^ 1 = b from (Int.pow_succ b 0).trans (by rw [Int.pow_zero, Int.one_mul])]⟩ w0).1
              rw [m6]; omega
            · have m3 : m ≤ 3 := by
                rcases hm with h | h
                · exact absurd (by rw [h]; simp) q
                · exact h.2
              refine ⟨_, rfl, _, rfl, p, pc, b, _, rfl, hb, Ck, by omega, fun n d T H' so bt C' hT => ⟨T, n, d, hT, so, fun S R w0 => ?_, sb bt, C'.same (Same.refl _) (by omega), rfl⟩⟩
              exact Nat.mul_le_mul m3 (so.len S R w0)
          · rintro σ H5 ⟨sp, n, d, hsp, so, l24, s5, C5, rfl⟩
            refine ⟨_, rfl, _, rfl, b, n, d, sp, rfl, hsp, so.fr, fun S R w0 T st rg H6 s6 hT hst hrg => ?_⟩
            refine ⟨T, _, rfl, SqT.of hT, rfl, _, _, rfl, _, _, rfl, rfl, ?_⟩
            have l8 := so.len S R w0
            have l24 := l24 S R w0
            have Rn := w0_ne w0
            have s96 := s5.trans s6
            have df6 := dfo.mono s96
            refine ⟨_, rfl, bk, _, 1, _, rfl, rfl, SqT.of (s96 _ _ hbk9), rfl, rr, kvvs kvs, rfl, df6, fun od2 u2 hf2 => ?_⟩
            have lk : (kvvs kvs).length = ns.length := by have := congrArg List.length ek1; rwa [List.length_map, List.length_map] at this
            refine for_it (walk_keysF (w := w) (d := rr) (od := od2) (kvs := kvvs kvs)) (fun j σ Hx => Same H6 Hx ∧ ∃ x11 x12 : Option V, σ = [some (.ref a), some (.ref p), some (.int (i : Nat)), some (.int b), some (.int (m : Nat)), some (.ref bk), some (.str (bookD2 b ns Rw).shown), some (.int (kk : Nat)), some (.ref sp), some (.ref st), some (.ref rg), x11, x12]) ?_ ?_ ?_ ?_
            · exact ⟨Same.refl _, _, _, rfl⟩
            · exact fun j σ Hx _ z => ⟨⟨u2, z.1 _ _ hf2⟩, df6.mono z.1⟩
            · rintro j v σ Hx Hx' hj ⟨sx, x11, x12, rfl⟩ ⟨rfl, k0, v0, hkv⟩
              rw [lk] at hj
              have hx := List.getElem?_eq_getElem hj
              have e3 : ((kvvs kvs).map fun x => x.2.1)[j]? = (ns.map V.str)[j]? := by rw [ek1]
              rw [List.getElem?_map, List.getElem?_map, hx, hkv] at e3
              obtain rfl : v = .str ns[j] := Option.some.inj e3
              have mx := List.getElem_mem hj
              generalize ns[j] = x at mx
              have s9x := s96.trans sx
              refine ⟨_, rfl, bk, _, 1, _, rfl, rfl, SqT.of (s9x _ _ hbk9), rfl, _, rfl, _, rfl, _, rfl, rr, st, rg, b, ns, Rw, B, S, R, x, true, rfl, BD.same s9x, BO, mx, sx _ _ hst, sx _ _ hrg, Rn, by rw [List.length_append]; omega, by rw [List.length_append, nm]; exact l24, sok, fun T3 u d3 H8 s8 hT3 mi => ?_⟩
              obtain ⟨d0, bd, bn, elo⟩ := due70 BO mx (by omega) (by omega) Rn mi
              have s98 := s9x.trans s8
              have hsp8 := s8 _ _ (sx _ _ (s6 _ _ hsp))
              refine ⟨_, rfl, _, rfl, _, rfl, bk, .ref sp, b, n, d, ns, Rw, B, x, rfl, ⟨SB.same s98, BO, mx, so.fr, ⟨H8, Same.refl _, dq_mk (l := [n, d]) hsp8⟩, fun S' R' w => by have := so.len S' R' w; omega⟩, fun S' R' w0' T4 H10 s10 hT4 => ?_⟩
              obtain ⟨rfl, rfl⟩ := w0.uniq w0'
              have hT3' := s10 _ _ hT3
              refine ⟨_, rfl, T3, _, 1, _, rfl, rfl, SqT.of hT3', rfl, _, rfl, T3, _, 0, _, rfl, rfl, SqT.of hT3', rfl, _, _, rfl, rfl, _, rfl, T3, _, 1, _, rfl, rfl, SqT.of hT3', rfl, _, _, rfl, d0, nat_up bd (by decide), fun q nq => ?_⟩
              have sq := same_upd (o := lowV (d3 - u) d3) nq
              have hq : upd H10 q (lowV (d3 - u) d3) q = some (.tup [.int (lowP (prT true ns Rw S R x) (prB true ns Rw S R)).1, .int (lowP (prT true ns Rw S R x) (prB true ns Rw S R)).2]) := by rw [upd_same, lowV_eq, elo]
              rw [lowV_eq] at hT4
              have szl : Sz 3849 1 (.tuple [.int (lowP (prT true ns Rw S R x) (prB true ns Rw S R)).1, .int (lowP (prT true ns Rw S R x) (prB true ns Rw S R)).2]) := by
                rw [← elo]
                obtain ⟨a1, a2⟩ := low_le (a := d3 - u) d0
                exact sz_two (sz_i (Nat.lt_of_le_of_lt a1 bn) (by decide) (by decide)) (sz_i (Nat.lt_of_le_of_lt a2 bd) (by decide) (by decide))
              have two : ∀ {Hq : Hp} {c : Addr} {u v : Int}, Hq c = some (.tup [.int u, .int v]) → Dx w Hq (.ref c) (.tuple [.int u, .int v]) := fun e => .tup e (.cons (.int _) (.cons (.int _) .nil))
              have sB : (PyData.tuple [.int (lowP (prT true ns Rw S R x) (prB true ns Rw S R)).1, .int (lowP (prT true ns Rw S R x) (prB true ns Rw S R)).2]).showable = true ∧ (PyData.tuple [.int (lowP (prT true ns Rw S R x) (prB true ns Rw S R)).1, .int (lowP (prT true ns Rw S R x) (prB true ns Rw S R)).2]).depth ≤ 100 ∧ (PyData.tuple [.int (lowP (prT true ns Rw S R x) (prB true ns Rw S R)).1, .int (lowP (prT true ns Rw S R x) (prB true ns Rw S R)).2]).shown.length ≤ sizeLine := ⟨szl.sh, Nat.le_trans szl.dp (by decide), Nat.le_trans szl.ln (by rw [sizeLine_eq]; decide)⟩
              refine ⟨.ref T4, .ref q, _, _, rfl, two (sq _ _ hT4), two hq, sB, sB, ?_⟩
              refine ⟨true, congrArg V.bl (decide_eq_true rfl), ?_⟩
              dsimp only
              rw [if_neg (by decide)]
              exact ⟨((sx.trans s8).trans s10).trans sq, _, _, rfl⟩
            · rintro σ Ho ⟨sx, x11, x12, rfl⟩
              exact ⟨s96.trans sx, C5.same (s6.trans sx) (Nat.le_refl _), _, _, _, _, _, _, rfl⟩
        · rintro σ Ho ⟨s9, Co, x7, x8, x9, x10, x11, x12, rfl⟩
          refine ⟨_, rfl, .ref bk, bookD2 b ns Rw, rfl, DB.mono s9, SZ.sh, Nat.le_trans SZ.dp (by decide), Nat.le_trans SZ.ln (by rw [sizeLine_eq]; decide), _, rfl, rfl, _, rfl, ?_⟩
          rw [show (!decide (V.str (bookD2 b ns Rw).shown = V.str (bookD2 b ns Rw).shown)) = false by simp]
          dsimp only
          rw [if_neg (by decide)]
          exact ⟨_, _, _, _, _, _, _, _, _, _, _, rfl, Co.same (Same.refl _) (by omega)⟩
    · rintro σ Ho ⟨x2, x3, x4, x5, x6, x7, x8, x9, x10, x11, x12, rfl, C2⟩
      exact k Ho
end
end My

namespace My
open PySem PySem.Spec PyProof.Rows L2
theorem all_mk {l : PySem.W.OpenLaw} {w : World} {K : PySem.W.Frag} {h : Heap} {mg : Str → Option Value} {fa f1 f2 f3 f4 f5 f6 f7 f8 f9 f10 f11 f12 f13 f14 f15 f16 f17 f18 f19 f20 f21 f22 f23 f24 f25 f26 f27 f28 f29 f30 : Addr} (X : K.In h) (G : h.Ns mainGlobals mg) (hfa : mg "law" = some (.ref fa))
    {od1 an1 od2 an2 od3 an3 od4 an4 od5 an5 od6 an6 od7 an7 od8 an8 od9 an9 od10 an10 od11 an11 od12 an12 od13 an13 od14 an14 od15 an15 od16 an16 od17 an17 od18 an18 od19 an19 od20 an20 od21 an21 od22 an22 od23 an23 od24 an24 od25 an25 od26 an26 od27 an27 od28 an28 od29 an29 od30 an30 : Option Addr} {sl1 sl2 sl3 sl4 sl5 sl6 sl7 sl8 sl9 sl10 sl11 sl12 sl13 sl14 sl15 sl16 sl17 sl18 sl19 sl20 sl21 sl22 sl23 sl24 sl25 sl26 sl27 sl28 sl29 sl30 : Array (Option Value)} {oc1 kV1 dc1 pm1 cd1 ct1 oc2 kV2 dc2 pm2 cd2 ct2 oc3 kV3 dc3 pm3 cd3 ct3 oc4 kV4 dc4 pm4 cd4 ct4 oc5 kV5 dc5 pm5 cd5 ct5 oc6 kV6 dc6 pm6 cd6 ct6 oc7 kV7 dc7 pm7 cd7 ct7 oc8 kV8 dc8 pm8 cd8 ct8 oc9 kV9 dc9 pm9 cd9 ct9 oc10 kV10 dc10 pm10 cd10 ct10 oc11 kV11 dc11 pm11 cd11 ct11 oc12 kV12 dc12 pm12 cd12 ct12 oc13 kV13 dc13 pm13 cd13 ct13 oc14 kV14 dc14 pm14 cd14 ct14 oc15 kV15 dc15 pm15 cd15 ct15 oc16 kV16 dc16 pm16 cd16 ct16 oc17 kV17 dc17 pm17 cd17 ct17 oc18 kV18 dc18 pm18 cd18 ct18 oc19 kV19 dc19 pm19 cd19 ct19 oc20 kV20 dc20 pm20 cd20 ct20 oc21 kV21 dc21 pm21 cd21 ct21 oc22 kV22 dc22 pm22 cd22 ct22 oc23 kV23 dc23 pm23 cd23 ct23 oc24 kV24 dc24 pm24 cd24 ct24 oc25 kV25 dc25 pm25 cd25 ct25 oc26 kV26 dc26 pm26 cd26 ct26 oc27 kV27 dc27 pm27 cd27 ct27 oc28 kV28 dc28 pm28 cd28 ct28 oc29 kV29 dc29 pm29 cd29 ct29 oc30 kV30 dc30 pm30 cd30 ct30 : Value}
    (a1 : PySem.W.nsIn K mainGlobals "writings_of" = some (some (.ref f1))) (l1 : K.lookup f1 = some ⟨oc1, od1, .func (PySem.W.fnOf "writings_of" "writings_of" (defArgs sWritings) (defBody sWritings) (defScope sWritings) .none kV1 dc1 pm1 an1 cd1 ct1), sl1⟩) (c1 : PySem.W.codeIn K cd1 "writings_of" = true) (k1 : PySem.W.keepIn K (.ref f1) = true)
    (a2 : PySem.W.nsIn K mainGlobals "in_lowest_terms" = some (some (.ref f2))) (l2 : K.lookup f2 = some ⟨oc2, od2, .func (PySem.W.fnOf "in_lowest_terms" "in_lowest_terms" (defArgs sInl) (defBody sInl) (defScope sInl) .none kV2 dc2 pm2 an2 cd2 ct2), sl2⟩) (c2 : PySem.W.codeIn K cd2 "in_lowest_terms" = true) (k2 : PySem.W.keepIn K (.ref f2) = true)
    (a3 : PySem.W.nsIn K mainGlobals "_divided" = some (some (.ref f3))) (l3 : K.lookup f3 = some ⟨oc3, od3, .func (PySem.W.fnOf "_divided" "_divided" (defArgs sDivided) (defBody sDivided) (defScope sDivided) .none kV3 dc3 pm3 an3 cd3 ct3), sl3⟩) (c3 : PySem.W.codeIn K cd3 "_divided" = true) (k3 : PySem.W.keepIn K (.ref f3) = true)
    (a4 : PySem.W.nsIn K mainGlobals "_stem_size" = some (some (.ref f4))) (l4 : K.lookup f4 = some ⟨oc4, od4, .func (PySem.W.fnOf "_stem_size" "_stem_size" (defArgs sStemSize) (defBody sStemSize) (defScope sStemSize) .none kV4 dc4 pm4 an4 cd4 ct4), sl4⟩) (c4 : PySem.W.codeIn K cd4 "_stem_size" = true) (k4 : PySem.W.keepIn K (.ref f4) = true)
    (a5 : PySem.W.nsIn K mainGlobals "solved" = some (some (.ref f5))) (l5 : K.lookup f5 = some ⟨oc5, od5, .func (PySem.W.fnOf "solved" "solved" (defArgs sSlv) (defBody sSlv) (defScope sSlv) .none kV5 dc5 pm5 an5 cd5 ct5), sl5⟩) (c5 : PySem.W.codeIn K cd5 "solved" = true) (k5 : PySem.W.keepIn K (.ref f5) = true)
    (a6 : PySem.W.nsIn K mainGlobals "at_most" = some (some (.ref f6))) (l6 : K.lookup f6 = some ⟨oc6, od6, .func (PySem.W.fnOf "at_most" "at_most" (defArgs sAtm) (defBody sAtm) (defScope sAtm) .none kV6 dc6 pm6 an6 cd6 ct6), sl6⟩) (c6 : PySem.W.codeIn K cd6 "at_most" = true) (k6 : PySem.W.keepIn K (.ref f6) = true)
    (a7 : PySem.W.nsIn K mainGlobals "_common_bottom" = some (some (.ref f7))) (l7 : K.lookup f7 = some ⟨oc7, od7, .func (PySem.W.fnOf "_common_bottom" "_common_bottom" (defArgs sCbot) (defBody sCbot) (defScope sCbot) .none kV7 dc7 pm7 an7 cd7 ct7), sl7⟩) (c7 : PySem.W.codeIn K cd7 "_common_bottom" = true) (k7 : PySem.W.keepIn K (.ref f7) = true)
    (a8 : PySem.W.nsIn K mainGlobals "_in_parts" = some (some (.ref f8))) (l8 : K.lookup f8 = some ⟨oc8, od8, .func (PySem.W.fnOf "_in_parts" "_in_parts" (defArgs sInp) (defBody sInp) (defScope sInp) .none kV8 dc8 pm8 an8 cd8 ct8), sl8⟩) (c8 : PySem.W.codeIn K cd8 "_in_parts" = true) (k8 : PySem.W.keepIn K (.ref f8) = true)
    (a9 : PySem.W.nsIn K mainGlobals "_number_of" = some (some (.ref f9))) (l9 : K.lookup f9 = some ⟨oc9, od9, .func (PySem.W.fnOf "_number_of" "_number_of" (defArgs sNum) (defBody sNum) (defScope sNum) .none kV9 dc9 pm9 an9 cd9 ct9), sl9⟩) (c9 : PySem.W.codeIn K cd9 "_number_of" = true) (k9 : PySem.W.keepIn K (.ref f9) = true)
    (a10 : PySem.W.nsIn K mainGlobals "_parted" = some (some (.ref f10))) (l10 : K.lookup f10 = some ⟨oc10, od10, .func (PySem.W.fnOf "_parted" "_parted" (defArgs sPrt) (defBody sPrt) (defScope sPrt) .none kV10 dc10 pm10 an10 cd10 ct10), sl10⟩) (c10 : PySem.W.codeIn K cd10 "_parted" = true) (k10 : PySem.W.keepIn K (.ref f10) = true)
    (a11 : PySem.W.nsIn K mainGlobals "_chance_along" = some (some (.ref f11))) (l11 : K.lookup f11 = some ⟨oc11, od11, .func (PySem.W.fnOf "_chance_along" "_chance_along" (defArgs sCal) (defBody sCal) (defScope sCal) .none kV11 dc11 pm11 an11 cd11 ct11), sl11⟩) (c11 : PySem.W.codeIn K cd11 "_chance_along" = true) (k11 : PySem.W.keepIn K (.ref f11) = true)
    (a12 : PySem.W.nsIn K mainGlobals "_chances_around" = some (some (.ref f12))) (l12 : K.lookup f12 = some ⟨oc12, od12, .func (PySem.W.fnOf "_chances_around" "_chances_around" (defArgs sCa) (defBody sCa) (defScope sCa) .none kV12 dc12 pm12 an12 cd12 ct12), sl12⟩) (c12 : PySem.W.codeIn K cd12 "_chances_around" = true) (k12 : PySem.W.keepIn K (.ref f12) = true)
    (a13 : PySem.W.nsIn K mainGlobals "_sure_of" = some (some (.ref f13))) (l13 : K.lookup f13 = some ⟨oc13, od13, .func (PySem.W.fnOf "_sure_of" "_sure_of" (defArgs sSure) (defBody sSure) (defScope sSure) .none kV13 dc13 pm13 an13 cd13 ct13), sl13⟩) (c13 : PySem.W.codeIn K cd13 "_sure_of" = true) (k13 : PySem.W.keepIn K (.ref f13) = true)
    (a14 : PySem.W.nsIn K mainGlobals "_gone_back" = some (some (.ref f14))) (l14 : K.lookup f14 = some ⟨oc14, od14, .func (PySem.W.fnOf "_gone_back" "_gone_back" (defArgs sGb) (defBody sGb) (defScope sGb) .none kV14 dc14 pm14 an14 cd14 ct14), sl14⟩) (c14 : PySem.W.codeIn K cd14 "_gone_back" = true) (k14 : PySem.W.keepIn K (.ref f14) = true)
    (a15 : PySem.W.nsIn K mainGlobals "_law_stir" = some (some (.ref f15))) (l15 : K.lookup f15 = some ⟨oc15, od15, .func (PySem.W.fnOf "_law_stir" "_law_stir" (defArgs sStir) (defBody sStir) (defScope sStir) .none kV15 dc15 pm15 an15 cd15 ct15), sl15⟩) (c15 : PySem.W.codeIn K cd15 "_law_stir" = true) (k15 : PySem.W.keepIn K (.ref f15) = true)
    (a16 : PySem.W.nsIn K mainGlobals "_law_begin" = some (some (.ref f16))) (l16 : K.lookup f16 = some ⟨oc16, od16, .func (PySem.W.fnOf "_law_begin" "_law_begin" (defArgs sBegin) (defBody sBegin) (defScope sBegin) .none kV16 dc16 pm16 an16 cd16 ct16), sl16⟩) (c16 : PySem.W.codeIn K cd16 "_law_begin" = true) (k16 : PySem.W.keepIn K (.ref f16) = true)
    (a17 : PySem.W.nsIn K mainGlobals "_law_draw" = some (some (.ref f17))) (l17 : K.lookup f17 = some ⟨oc17, od17, .func (PySem.W.fnOf "_law_draw" "_law_draw" (defArgs sDraw) (defBody sDraw) (defScope sDraw) .none kV17 dc17 pm17 an17 cd17 ct17), sl17⟩) (c17 : PySem.W.codeIn K cd17 "_law_draw" = true) (k17 : PySem.W.keepIn K (.ref f17) = true)
    (a18 : PySem.W.nsIn K mainGlobals "_law_one_of" = some (some (.ref f18))) (l18 : K.lookup f18 = some ⟨oc18, od18, .func (PySem.W.fnOf "_law_one_of" "_law_one_of" (defArgs sOneOf) (defBody sOneOf) (defScope sOneOf) .none kV18 dc18 pm18 an18 cd18 ct18), sl18⟩) (c18 : PySem.W.codeIn K cd18 "_law_one_of" = true) (k18 : PySem.W.keepIn K (.ref f18) = true)
    (a19 : PySem.W.nsIn K mainGlobals "_law_some_names" = some (some (.ref f19))) (l19 : K.lookup f19 = some ⟨oc19, od19, .func (PySem.W.fnOf "_law_some_names" "_law_some_names" (defArgs sSome) (defBody sSome) (defScope sSome) .none kV19 dc19 pm19 an19 cd19 ct19), sl19⟩) (c19 : PySem.W.codeIn K cd19 "_law_some_names" = true) (k19 : PySem.W.keepIn K (.ref f19) = true)
    (a20 : PySem.W.nsIn K mainGlobals "_law_equal" = some (some (.ref f20))) (l20 : K.lookup f20 = some ⟨oc20, od20, .func (PySem.W.fnOf "_law_equal" "_law_equal" (defArgs sEqual) (defBody sEqual) (defScope sEqual) .none kV20 dc20 pm20 an20 cd20 ct20), sl20⟩) (c20 : PySem.W.codeIn K cd20 "_law_equal" = true) (k20 : PySem.W.keepIn K (.ref f20) = true)
    (a21 : PySem.W.nsIn K mainGlobals "_law_lowest" = some (some (.ref f21))) (l21 : K.lookup f21 = some ⟨oc21, od21, .func (PySem.W.fnOf "_law_lowest" "_law_lowest" (defArgs sLow) (defBody sLow) (defScope sLow) .none kV21 dc21 pm21 an21 cd21 ct21), sl21⟩) (c21 : PySem.W.codeIn K cd21 "_law_lowest" = true) (k21 : PySem.W.keepIn K (.ref f21) = true)
    (a22 : PySem.W.nsIn K mainGlobals "_law_writing" = some (some (.ref f22))) (l22 : K.lookup f22 = some ⟨oc22, od22, .func (PySem.W.fnOf "_law_writing" "_law_writing" (defArgs sLwr) (defBody sLwr) (defScope sLwr) .none kV22 dc22 pm22 an22 cd22 ct22), sl22⟩) (c22 : PySem.W.codeIn K cd22 "_law_writing" = true) (k22 : PySem.W.keepIn K (.ref f22) = true)
    (a23 : PySem.W.nsIn K mainGlobals "_law_added" = some (some (.ref f23))) (l23 : K.lookup f23 = some ⟨oc23, od23, .func (PySem.W.fnOf "_law_added" "_law_added" (defArgs sAdd) (defBody sAdd) (defScope sAdd) .none kV23 dc23 pm23 an23 cd23 ct23), sl23⟩) (c23 : PySem.W.codeIn K cd23 "_law_added" = true) (k23 : PySem.W.keepIn K (.ref f23) = true)
    (a24 : PySem.W.nsIn K mainGlobals "_law_solved" = some (some (.ref f24))) (l24 : K.lookup f24 = some ⟨oc24, od24, .func (PySem.W.fnOf "_law_solved" "_law_solved" (defArgs sLso) (defBody sLso) (defScope sLso) .none kV24 dc24 pm24 an24 cd24 ct24), sl24⟩) (c24 : PySem.W.codeIn K cd24 "_law_solved" = true) (k24 : PySem.W.keepIn K (.ref f24) = true)
    (a25 : PySem.W.nsIn K mainGlobals "_law_shared" = some (some (.ref f25))) (l25 : K.lookup f25 = some ⟨oc25, od25, .func (PySem.W.fnOf "_law_shared" "_law_shared" (defArgs sShared) (defBody sShared) (defScope sShared) .none kV25 dc25 pm25 an25 cd25 ct25), sl25⟩) (c25 : PySem.W.codeIn K cd25 "_law_shared" = true) (k25 : PySem.W.keepIn K (.ref f25) = true)
    (a26 : PySem.W.nsIn K mainGlobals "_law_sure_pairs" = some (some (.ref f26))) (l26 : K.lookup f26 = some ⟨oc26, od26, .func (PySem.W.fnOf "_law_sure_pairs" "_law_sure_pairs" (defArgs sSp) (defBody sSp) (defScope sSp) .none kV26 dc26 pm26 an26 cd26 ct26), sl26⟩) (c26 : PySem.W.codeIn K cd26 "_law_sure_pairs" = true) (k26 : PySem.W.keepIn K (.ref f26) = true)
    (a27 : PySem.W.nsIn K mainGlobals "_law_unknowns" = some (some (.ref f27))) (l27 : K.lookup f27 = some ⟨oc27, od27, .func (PySem.W.fnOf "_law_unknowns" "_law_unknowns" (defArgs sUn) (defBody sUn) (defScope sUn) .none kV27 dc27 pm27 an27 cd27 ct27), sl27⟩) (c27 : PySem.W.codeIn K cd27 "_law_unknowns" = true) (k27 : PySem.W.keepIn K (.ref f27) = true)
    (a28 : PySem.W.nsIn K mainGlobals "_law_mass" = some (some (.ref f28))) (l28 : K.lookup f28 = some ⟨oc28, od28, .func (PySem.W.fnOf "_law_mass" "_law_mass" (defArgs sMs) (defBody sMs) (defScope sMs) .none kV28 dc28 pm28 an28 cd28 ct28), sl28⟩) (c28 : PySem.W.codeIn K cd28 "_law_mass" = true) (k28 : PySem.W.keepIn K (.ref f28) = true)
    (a29 : PySem.W.nsIn K mainGlobals "_law_drawn_spot" = some (some (.ref f29))) (l29 : K.lookup f29 = some ⟨oc29, od29, .func (PySem.W.fnOf "_law_drawn_spot" "_law_drawn_spot" (defArgs sSpot) (defBody sSpot) (defScope sSpot) .none kV29 dc29 pm29 an29 cd29 ct29), sl29⟩) (c29 : PySem.W.codeIn K cd29 "_law_drawn_spot" = true) (k29 : PySem.W.keepIn K (.ref f29) = true)
    (a30 : PySem.W.nsIn K mainGlobals "law" = some (some (.ref f30))) (l30 : K.lookup f30 = some ⟨oc30, od30, .func (PySem.W.fnOf "law" "law" (defArgs sLaw70) (defBody sLaw70) (defScope sLaw70) .none kV30 dc30 pm30 an30 cd30 ct30), sl30⟩) (c30 : PySem.W.codeIn K cd30 "law" = true) (k30 : PySem.W.keepIn K (.ref f30) = true)
    (z_len : PySem.W.nsIn K mainGlobals "len" = some none)
    (z_int : PySem.W.nsIn K mainGlobals "int" = some none)
    (z_tuple : PySem.W.nsIn K mainGlobals "tuple" = some none)
    (z_list : PySem.W.nsIn K mainGlobals "list" = some none)
    (z_dict : PySem.W.nsIn K mainGlobals "dict" = some none)
    (z_zip : PySem.W.nsIn K mainGlobals "zip" = some none)
    (z_range : PySem.W.nsIn K mainGlobals "range" = some none)
    (z_sorted : PySem.W.nsIn K mainGlobals "sorted" = some none)
    (z_enumerate : PySem.W.nsIn K mainGlobals "enumerate" = some none)
    (z_repr : PySem.W.nsIn K mainGlobals "repr" = some none)
    (z_abs : PySem.W.nsIn K mainGlobals "abs" = some none)
    (z_sum : PySem.W.nsIn K mainGlobals "sum" = some none)
    (z_reversed : PySem.W.nsIn K mainGlobals "reversed" = some none)
    (z_divmod : PySem.W.nsIn K mainGlobals "divmod" = some none)
    (z_min : PySem.W.nsIn K mainGlobals "min" = some none)
    (z_max : PySem.W.nsIn K mainGlobals "max" = some none)
    (zG : PySem.W.nsIn K mainGlobals "gcd" = some (some (.builtin "math.gcd")))
    (zL : PySem.W.nsIn K mainGlobals "lcm" = some (some (.builtin "math.lcm")))
    : ∃ fd : FuncData, (∀ (s : Shared) (v : Value), BindsTo s fd ⟨[v], []⟩ [("script", v)]) ∧ ∀ base : Heap, K.In base → base.Ns mainGlobals mg → AtTop l.prog w K mg base fa fd ["script"] (spLaw K) := by
  have e := hfa.symm.trans (PySem.W.mg_of X G a30)
  cases e
  have F1 := fun_mk (st := sWritings) l1 c1 k1; have g1 := PySem.W.mg_of X G a1
  have F2 := fun_mk (st := sInl) l2 c2 k2; have g2 := PySem.W.mg_of X G a2
  have F3 := fun_mk (st := sDivided) l3 c3 k3; have g3 := PySem.W.mg_of X G a3
  have F4 := fun_mk (st := sStemSize) l4 c4 k4; have g4 := PySem.W.mg_of X G a4
  have F5 := fun_mk (st := sSlv) l5 c5 k5; have g5 := PySem.W.mg_of X G a5
  have F6 := fun_mk (st := sAtm) l6 c6 k6; have g6 := PySem.W.mg_of X G a6
  have F7 := fun_mk (st := sCbot) l7 c7 k7; have g7 := PySem.W.mg_of X G a7
  have F8 := fun_mk (st := sInp) l8 c8 k8; have g8 := PySem.W.mg_of X G a8
  have F9 := fun_mk (st := sNum) l9 c9 k9; have g9 := PySem.W.mg_of X G a9
  have F10 := fun_mk (st := sPrt) l10 c10 k10; have g10 := PySem.W.mg_of X G a10
  have F11 := fun_mk (st := sCal) l11 c11 k11; have g11 := PySem.W.mg_of X G a11
  have F12 := fun_mk (st := sCa) l12 c12 k12; have g12 := PySem.W.mg_of X G a12
  have F13 := fun_mk (st := sSure) l13 c13 k13; have g13 := PySem.W.mg_of X G a13
  have F14 := fun_mk (st := sGb) l14 c14 k14; have g14 := PySem.W.mg_of X G a14
  have F15 := fun_mk (st := sStir) l15 c15 k15; have g15 := PySem.W.mg_of X G a15
  have F16 := fun_mk (st := sBegin) l16 c16 k16; have g16 := PySem.W.mg_of X G a16
  have F17 := fun_mk (st := sDraw) l17 c17 k17; have g17 := PySem.W.mg_of X G a17
  have F18 := fun_mk (st := sOneOf) l18 c18 k18; have g18 := PySem.W.mg_of X G a18
  have F19 := fun_mk (st := sSome) l19 c19 k19; have g19 := PySem.W.mg_of X G a19
  have F20 := fun_mk (st := sEqual) l20 c20 k20; have g20 := PySem.W.mg_of X G a20
  have F21 := fun_mk (st := sLow) l21 c21 k21; have g21 := PySem.W.mg_of X G a21
  have F22 := fun_mk (st := sLwr) l22 c22 k22; have g22 := PySem.W.mg_of X G a22
  have F23 := fun_mk (st := sAdd) l23 c23 k23; have g23 := PySem.W.mg_of X G a23
  have F24 := fun_mk (st := sLso) l24 c24 k24; have g24 := PySem.W.mg_of X G a24
  have F25 := fun_mk (st := sShared) l25 c25 k25; have g25 := PySem.W.mg_of X G a25
  have F26 := fun_mk (st := sSp) l26 c26 k26; have g26 := PySem.W.mg_of X G a26
  have F27 := fun_mk (st := sUn) l27 c27 k27; have g27 := PySem.W.mg_of X G a27
  have F28 := fun_mk (st := sMs) l28 c28 k28; have g28 := PySem.W.mg_of X G a28
  have F29 := fun_mk (st := sSpot) l29 c29 k29; have g29 := PySem.W.mg_of X G a29
  have F30 := fun_mk (st := sLaw70) l30 c30 k30; have g30 := PySem.W.mg_of X G a30
  have m_len := PySem.W.mg_none_of X G z_len
  have m_int := PySem.W.mg_none_of X G z_int
  have m_tuple := PySem.W.mg_none_of X G z_tuple
  have m_list := PySem.W.mg_none_of X G z_list
  have m_dict := PySem.W.mg_none_of X G z_dict
  have m_zip := PySem.W.mg_none_of X G z_zip
  have m_range := PySem.W.mg_none_of X G z_range
  have m_sorted := PySem.W.mg_none_of X G z_sorted
  have m_enumerate := PySem.W.mg_none_of X G z_enumerate
  have m_repr := PySem.W.mg_none_of X G z_repr
  have m_abs := PySem.W.mg_none_of X G z_abs
  have m_sum := PySem.W.mg_none_of X G z_sum
  have m_reversed := PySem.W.mg_none_of X G z_reversed
  have m_divmod := PySem.W.mg_none_of X G z_divmod
  have m_min := PySem.W.mg_none_of X G z_min
  have m_max := PySem.W.mg_none_of X G z_max
  have b6 := F6.binds (ps := ["book", "name", "fraction"]) fun _ _ _ _ _ _ us hl => match us, hl with | [_, _, _], _ => rfl
  have b1 := F1.binds (ps := ["base", "fraction"]) fun _ _ _ _ _ _ us hl => match us, hl with | [_, _], _ => rfl
  have b3 := F3.binds (ps := ["base", "top", "bottom"]) fun _ _ _ _ _ _ us hl => match us, hl with | [_, _, _], _ => rfl
  have b4 := F4.binds (ps := ["base", "bottom"]) fun _ _ _ _ _ _ us hl => match us, hl with | [_, _], _ => rfl
  have b11 := F11.binds (ps := ["book", "name", "stem", "ring", "with_less"]) fun _ _ _ _ _ _ us hl => match us, hl with | [_, _, _, _, _], _ => rfl
  have b12 := F12.binds (ps := ["whole", "rows", "ring", "with_less"]) fun _ _ _ _ _ _ us hl => match us, hl with | [_, _, _, _], _ => rfl
  have b13 := F13.binds (ps := ["lines", "size"]) fun _ _ _ _ _ _ us hl => match us, hl with | [_, _], _ => rfl
  have b14 := F14.binds (ps := ["whole", "rows", "digits", "with_less", "lines", "size"]) fun _ _ _ _ _ _ us hl => match us, hl with | [_, _, _, _, _, _], _ => rfl
  have b22 := F22.binds (ps := ["base", "fraction"]) fun _ _ _ _ _ _ us hl => match us, hl with | [_, _], _ => rfl
  have b26 := F26.binds (ps := ["rows", "digits", "places"]) fun _ _ _ _ _ _ us hl => match us, hl with | [_, _, _], _ => rfl
  have b27 := F27.binds (ps := ["rows", "stem", "ring"]) fun _ _ _ _ _ _ us hl => match us, hl with | [_, _, _], _ => rfl
  have b28 := F28.binds (ps := ["rows", "name", "stem", "ring", "way"]) fun _ _ _ _ _ _ us hl => match us, hl with | [_, _, _, _, _], _ => rfl
  have b29 := F29.binds (ps := ["pen", "base"]) fun _ _ _ _ _ _ us hl => match us, hl with | [_, _], _ => rfl
  have b2 := F2.binds (ps := ["top", "bottom"]) fun _ _ _ _ _ _ us hl => match us, hl with | [_, _], _ => rfl
  have b7 := F7.binds (ps := ["fractions"]) fun _ _ _ _ _ _ us hl => match us, hl with | [_], _ => rfl
  have b8 := F8.binds (ps := ["whole", "fractions"]) fun _ _ _ _ _ _ us hl => match us, hl with | [_, _], _ => rfl
  have b9 := F9.binds (ps := ["book", "name"]) fun _ _ _ _ _ _ us hl => match us, hl with | [_, _], _ => rfl
  have b10 := F10.binds (ps := ["book"]) fun _ _ _ _ _ _ us hl => match us, hl with | [_], _ => rfl
  have b5 := F5.binds (ps := ["rows"]) fun _ _ _ _ _ _ us hl => match us, hl with | [_], _ => rfl
  have b15 := F15.binds (ps := ["cell", "at"]) fun _ _ _ _ _ _ us hl => match us, hl with | [_, _], _ => rfl
  have b16 := F16.binds (ps := ["script"]) fun _ _ _ _ _ _ us hl => match us, hl with | [_], _ => rfl
  have b17 := F17.binds (ps := ["pen", "many"]) fun _ _ _ _ _ _ us hl => match us, hl with | [_, _], _ => rfl
  have b18 := F18.binds (ps := ["pen", "some"]) fun _ _ _ _ _ _ us hl => match us, hl with | [_, _], _ => rfl
  have b19 := F19.binds (ps := ["pen", "many"]) fun _ _ _ _ _ _ us hl => match us, hl with | [_, _], _ => rfl
  have b20 := F20.binds (ps := ["found", "due"]) fun _ _ _ _ _ _ us hl => match us, hl with | [_, _], _ => rfl
  have b21 := F21.binds (ps := ["top", "below"]) fun _ _ _ _ _ _ us hl => match us, hl with | [_, _], _ => rfl
  have b23 := F23.binds (ps := ["one", "other"]) fun _ _ _ _ _ _ us hl => match us, hl with | [_, _], _ => rfl
  have b24 := F24.binds (ps := ["rows", "sums"]) fun _ _ _ _ _ _ us hl => match us, hl with | [_, _], _ => rfl
  have b25 := F25.binds (ps := ["pen", "base", "many", "most"]) fun _ _ _ _ _ _ us hl => match us, hl with | [_, _, _, _], _ => rfl
  have TX : Tx mg := ⟨m_len, m_divmod, m_tuple⟩
  have TC : TgC mg := ⟨m_len, m_range, m_zip, m_list, m_sum, m_reversed, m_int⟩
  have TD : TxD mg := ⟨m_len, m_range, m_abs, m_enumerate⟩
  have TS : TxS mg := ⟨m_len, m_range, m_tuple, m_sorted, m_sum⟩
  have TG : TgS mg := ⟨m_len, m_range, m_enumerate, m_zip, m_list, m_sum⟩
  have TL : TgL mg := ⟨m_len, m_range, m_zip, m_abs, m_sorted, m_dict, m_int⟩
  have TP : TgP mg := ⟨m_len, m_range, m_list, m_dict⟩
  have TU : TgU mg := ⟨m_len, m_range, m_sorted⟩
  refine ⟨PySem.W.fnOf "law" "law" (defArgs sLaw70) (defBody sLaw70) (defScope sLaw70) .none kV30 dc30 pm30 an30 cd30 ct30, fun s v => .of_eq rfl, fun base _ _ => ?_⟩
  have GT := ok_draw (P := l.prog) (w := w) (base := base) F17 TD F15 b15 g15
  have GOn := ok_oneof (P := l.prog) (w := w) (base := base) F18 m_len F17 GT b17 g17
  have GSn := ok_some (P := l.prog) (w := w) (base := base) F19 TD F17 GT b17 g17 F18 GOn b18 g18
  have GLo := ok_low (P := l.prog) (w := w) (base := base) F21 TD
  have GSd := ok_shared (P := l.prog) (w := w) (base := base) F25 TS F17 GT b17 g17 F18 GOn b18 g18 F19 GSn b19 g19 F21 GLo b21 g21
  have GSl := ok_slv (P := l.prog) (w := w) (base := base) F5 TG
  have GCb := ok_cbot (P := l.prog) (w := w) (base := base) F7 (PySem.W.mg_of X G zL)
  have GIp := ok_inp (P := l.prog) (w := w) (mg := mg) (base := base) F8
  have GPt := ok_prt (P := l.prog) (w := w) (base := base) F10 TG F7 GCb b7 g7 F8 GIp b8 g8
  have GNm := ok_num (P := l.prog) (w := w) (base := base) F9 TG
  have GIl := ok_inl (P := l.prog) (w := w) (base := base) F2 (PySem.W.mg_of X G zG)
  have GDv := ok_divided (P := l.prog) (w := w) (base := base) F3 TX m_range F4 b4 g4 (PySem.W.mg_of X G zG)
  have GWo := ok_writings (P := l.prog) (w := w) (base := base) F1 TX F3 GDv b3 g3
  have GGb := ok_gb (P := l.prog) (w := w) (base := base) F14 TC
  have GSu := ok_sure (P := l.prog) (w := w) (base := base) F13 TC
  have GCa := ok_ca (P := l.prog) (w := w) (base := base) F12 TC F14 GGb b14 g14 F13 GSu b13 g13 F5 GSl b5 g5
  have GCl := ok_cal (P := l.prog) (w := w) (mg := mg) (base := base) F11 F10 GPt b10 g10 F12 GCa b12 g12 F14 GGb b14 g14 F9 GNm b9 g9
  have GAm := ok_atm (P := l.prog) (w := w) (mg := mg) (base := base) F6 F1 GWo b1 g1 F11 GCl b11 g11 F2 GIl b2 g2
  have GAd := ok_add (P := l.prog) (w := w) (mg := mg) (base := base) F23 F21 GLo b21 g21
  have GLs := ok_lso (P := l.prog) (w := w) (base := base) F24 TL F21 GLo b21 g21 F23 GAd b23 g23
  have GLw := ok_lwr (P := l.prog) (w := w) (base := base) F22 TX
  have GSt := ok_spot (P := l.prog) (w := w) (base := base) F29 ⟨m_min, m_max⟩ F17 GT b17 g17 F18 GOn b18 g18 F21 GLo b21 g21
  have GSr := ok_sp (P := l.prog) (w := w) (base := base) F26 TP
  have GUn := ok_un (P := l.prog) (w := w) (base := base) F27 TU F26 GSr b26 g26
  have GMs := ok_ms (P := l.prog) (w := w) (base := base) F28 ⟨m_dict⟩ F27 GUn b27 g27 F23 GAd b23 g23 F24 GLs b24 g24
  have GEq := ok_equal (P := l.prog) (w := w) (base := base) F20 m_repr
  exact ok_law70 F30 ⟨m_range, m_repr⟩ F16 (ok_begin F16 TD) b16 g16 F17 GT b17 g17 F18 GOn b18 g18 F25 GSd b25 g25 F29 GSt b29 g29 F22 GLw b22 g22 F28 GMs b28 g28 F21 GLo b21 g21 F6 GAm b6 g6 F20 GEq b20 g20
end My
open PySem PySem.W PyProof.Rows
set_option maxRecDepth 100000 in
set_option maxHeartbeats 0 in
theorem PySem.Challenge.cw_dustwithin_k70_how_likely_at_most_holds : PySem.Challenge.rw_dustwithin_k70_how_likely_at_most.Holds := by
  w_on; o_law; k_head; (case hw => w_witness2)
  k_fill
  refine My.walk_top (l := PySem.Challenge.rw_dustwithin_k70_how_likely_at_most) (n := 63) (x := "script") (sp := fun w => My.spLaw _) rfl (by decide) rfl (fun w h Y => PySem.W.kIn_of Y) ?F (fun _ _ a ns hl _ hS => ⟨a, ns, rfl, hS, hl, fun _ => rfl⟩)
  case F =>
    intro w mg fa h KX G hmg
    refine' My.all_mk KX G hmg ?a1 ?l1 ?c1 ?k1 ?a2 ?l2 ?c2 ?k2 ?a3 ?l3 ?c3 ?k3 ?a4 ?l4 ?c4 ?k4 ?a5 ?l5 ?c5 ?k5 ?a6 ?l6 ?c6 ?k6 ?a7 ?l7 ?c7 ?k7 ?a8 ?l8 ?c8 ?k8 ?a9 ?l9 ?c9 ?k9 ?a10 ?l10 ?c10 ?k10 ?a11 ?l11 ?c11 ?k11 ?a12 ?l12 ?c12 ?k12 ?a13 ?l13 ?c13 ?k13 ?a14 ?l14 ?c14 ?k14 ?a15 ?l15 ?c15 ?k15 ?a16 ?l16 ?c16 ?k16 ?a17 ?l17 ?c17 ?k17 ?a18 ?l18 ?c18 ?k18 ?a19 ?l19 ?c19 ?k19 ?a20 ?l20 ?c20 ?k20 ?a21 ?l21 ?c21 ?k21 ?a22 ?l22 ?c22 ?k22 ?a23 ?l23 ?c23 ?k23 ?a24 ?l24 ?c24 ?k24 ?a25 ?l25 ?c25 ?k25 ?a26 ?l26 ?c26 ?k26 ?a27 ?l27 ?c27 ?k27 ?a28 ?l28 ?c28 ?k28 ?a29 ?l29 ?c29 ?k29 ?a30 ?l30 ?c30 ?k30 ?z_len ?z_int ?z_tuple ?z_list ?z_dict ?z_zip ?z_range ?z_sorted ?z_enumerate ?z_repr ?z_abs ?z_sum ?z_reversed ?z_divmod ?z_min ?z_max ?zG ?zL
    (case a1 => k_is); (case l1 => k_is); (case c1 => k_is); (case k1 => k_is); (case a2 => k_is); (case l2 => k_is)
    (case c2 => k_is); (case k2 => k_is); (case a3 => k_is); (case l3 => k_is); (case c3 => k_is); (case k3 => k_is)
    (case a4 => k_is); (case l4 => k_is); (case c4 => k_is); (case k4 => k_is); (case a5 => k_is); (case l5 => k_is)
    (case c5 => k_is); (case k5 => k_is); (case a6 => k_is); (case l6 => k_is); (case c6 => k_is); (case k6 => k_is)
    (case a7 => k_is); (case l7 => k_is); (case c7 => k_is); (case k7 => k_is); (case a8 => k_is); (case l8 => k_is)
    (case c8 => k_is); (case k8 => k_is); (case a9 => k_is); (case l9 => k_is); (case c9 => k_is); (case k9 => k_is)
    (case a10 => k_is); (case l10 => k_is); (case c10 => k_is); (case k10 => k_is); (case a11 => k_is); (case l11 => k_is)
    (case c11 => k_is); (case k11 => k_is); (case a12 => k_is); (case l12 => k_is); (case c12 => k_is); (case k12 => k_is)
    (case a13 => k_is); (case l13 => k_is); (case c13 => k_is); (case k13 => k_is); (case a14 => k_is); (case l14 => k_is)
    (case c14 => k_is); (case k14 => k_is); (case a15 => k_is); (case l15 => k_is); (case c15 => k_is); (case k15 => k_is)
    (case a16 => k_is); (case l16 => k_is); (case c16 => k_is); (case k16 => k_is); (case a17 => k_is); (case l17 => k_is)
    (case c17 => k_is); (case k17 => k_is); (case a18 => k_is); (case l18 => k_is); (case c18 => k_is); (case k18 => k_is)
    (case a19 => k_is); (case l19 => k_is); (case c19 => k_is); (case k19 => k_is); (case a20 => k_is); (case l20 => k_is)
    (case c20 => k_is); (case k20 => k_is); (case a21 => k_is); (case l21 => k_is); (case c21 => k_is); (case k21 => k_is)
    (case a22 => k_is); (case l22 => k_is); (case c22 => k_is); (case k22 => k_is); (case a23 => k_is); (case l23 => k_is)
    (case c23 => k_is); (case k23 => k_is); (case a24 => k_is); (case l24 => k_is); (case c24 => k_is); (case k24 => k_is)
    (case a25 => k_is); (case l25 => k_is); (case c25 => k_is); (case k25 => k_is); (case a26 => k_is); (case l26 => k_is)
    (case c26 => k_is); (case k26 => k_is); (case a27 => k_is); (case l27 => k_is); (case c27 => k_is); (case k27 => k_is)
    (case a28 => k_is); (case l28 => k_is); (case c28 => k_is); (case k28 => k_is); (case a29 => k_is); (case l29 => k_is)
    (case c29 => k_is); (case k29 => k_is); (case a30 => k_is); (case l30 => k_is); (case c30 => k_is); (case k30 => k_is)
    (case z_len => k_is); (case z_int => k_is); (case z_tuple => k_is); (case z_list => k_is); (case z_dict => k_is); (case z_zip => k_is)
    (case z_range => k_is); (case z_sorted => k_is); (case z_enumerate => k_is); (case z_repr => k_is); (case z_abs => k_is); (case z_sum => k_is)
    (case z_reversed => k_is); (case z_divmod => k_is); (case z_min => k_is); (case z_max => k_is); (case zG => k_is); (case zL => k_is)
